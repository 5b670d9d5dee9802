"""Point 2: whole numbers, points, boxes, what is handed in and what is told."""

import copy
import unittest

from landweave.errors import NoBox, NoPoint, NoRules
from landweave.fields import bounds_of, must_rules, run_steps, steps_of, value_at
from tests.helper import deep_in

RULES = ("let", "a", ("plus", ("x",), ("noise", 3, 2)),
         ("below", ("name", "a"), ("whole", 9), ("shift", 1, 2, ("name", "a")), ("z",)))


class HandedIn(unittest.TestCase):
    def test_steps_stay_as_they_were(self):
        steps = steps_of(RULES)
        before = copy.deepcopy(steps)
        run_steps(steps, 5, 3, -4)
        self.assertEqual(steps, before)

    def test_rules_stay_as_they_were(self):
        before = copy.deepcopy(RULES)
        must_rules(RULES)
        steps_of(RULES)
        value_at(RULES, 5, 3, -4)
        bounds_of(RULES, 5, (0, 0, 9, 9))
        self.assertEqual(RULES, before)

    def test_refused_rules_stay_as_they_were(self):
        held = [("x",)]
        with self.assertRaises(NoRules):
            must_rules(("plus", ("x",), held))
        self.assertEqual(held, [("x",)])


class Told(unittest.TestCase):
    def test_a_told_list_may_be_changed(self):
        first = steps_of(RULES)
        kept = copy.deepcopy(first)
        value = value_at(RULES, 5, 3, -4)
        first.clear()
        self.assertEqual(steps_of(RULES), kept)
        self.assertEqual(value_at(RULES, 5, 3, -4), value)

    def test_no_told_list_is_another(self):
        first, second = steps_of(RULES), steps_of(RULES)
        self.assertIsNot(first, second)
        second.append(("whole", 1))
        self.assertEqual(first, steps_of(RULES))

    def test_a_list_told_may_be_changed_and_run(self):
        steps = steps_of(("plus", ("x",), ("z",)))
        steps.append(("times", 2, 2))
        self.assertEqual(run_steps(steps, 0, 3, 4), 49)

    def test_the_same_again(self):
        for _ in range(3):
            self.assertEqual(value_at(RULES, 5, 3, -4), value_at(RULES, 5, 3, -4))
            self.assertEqual(steps_of(RULES), steps_of(RULES))
            self.assertEqual(bounds_of(RULES, 5, (0, 0, 9, 9)), bounds_of(RULES, 5, (0, 0, 9, 9)))

    def test_a_refused_call_changes_nothing(self):
        value = value_at(RULES, 5, 3, -4)
        for bad in (("nope",), ("name", "a"), deep_in(("x",), 200, lambda f: ("over", f, 1))):
            with self.assertRaises(NoRules):
                value_at(bad, 5, 3, -4)
        self.assertEqual(value_at(RULES, 5, 3, -4), value)

    def test_told_kinds(self):
        self.assertIsNone(must_rules(RULES))
        self.assertIs(type(value_at(RULES, 5, 3, -4)), int)
        self.assertIs(type(steps_of(RULES)), list)
        self.assertEqual({type(step) for step in steps_of(RULES)}, {tuple})
        self.assertIs(type(run_steps(steps_of(RULES), 5, 3, -4)), int)
        self.assertIs(type(bounds_of(RULES, 5, (0, 0, 9, 9))), tuple)


class Arguments(unittest.TestCase):
    def test_by_names_in_any_order(self):
        steps = steps_of(rules=RULES)
        self.assertEqual(steps, steps_of(RULES))
        self.assertIsNone(must_rules(rules=RULES))
        self.assertEqual(value_at(z=-4, x=3, seed=5, rules=RULES), value_at(RULES, 5, 3, -4))
        self.assertEqual(value_at(RULES, 5, z=-4, x=3), value_at(RULES, 5, 3, -4))
        self.assertEqual(run_steps(z=-4, x=3, seed=5, some=steps), run_steps(steps, 5, 3, -4))
        self.assertEqual(run_steps(steps, 5, z=-4, x=3), run_steps(steps, 5, 3, -4))
        box = (0, 1, 9, 8)
        self.assertEqual(bounds_of(box=box, seed=5, rules=RULES), bounds_of(RULES, 5, box))

    def test_x_is_not_z(self):
        self.assertEqual(value_at(("x",), 0, 3, 4), 3)
        self.assertEqual(value_at(("z",), 0, 3, 4), 4)


class Truths(unittest.TestCase):
    def test_no_numbers_of_rules(self):
        for truth in (True, False):
            for rules, path in (
                    (("whole", truth), (1,)),
                    (("noise", truth, 1), (1,)),
                    (("noise", 1, truth), (2,)),
                    (("over", ("x",), truth), (2,)),
                    (("shift", truth, 0, ("x",)), (1,)),
                    (("shift", 0, truth, ("x",)), (2,))):
                with self.subTest(rules=rules), self.assertRaises(NoRules) as caught:
                    must_rules(rules)
                self.assertEqual((caught.exception.path, caught.exception.why), (path, "number"))

    def test_no_names_and_no_fields(self):
        for rules, path, why in (
                (True, (), "kind"),
                (("plus", ("x",), False), (2,), "kind"),
                ((True,), (), "kind"),
                (("name", True), (1,), "name")):
            with self.subTest(rules=rules), self.assertRaises(NoRules) as caught:
                must_rules(rules)
            self.assertEqual((caught.exception.path, caught.exception.why), (path, why))

    def test_no_points(self):
        for x, z in ((True, 0), (0, True), (False, 0), (0, False)):
            with self.subTest(x=x, z=z), self.assertRaises(NoPoint):
                value_at(("x",), 0, x, z)

    def test_no_corners(self):
        for box in ((False, 0, 1, 1), (0, False, 1, 1), (0, 0, True, 1), (0, 0, 1, True)):
            with self.subTest(box=box), self.assertRaises(NoBox):
                bounds_of(("x",), 0, box)


class Points(unittest.TestCase):
    def test_the_ends_of_the_land_are_points(self):
        for x in (-10 ** 6, 0, 10 ** 6):
            for z in (-10 ** 6, 0, 10 ** 6):
                self.assertEqual(value_at(("x",), 0, x, z), x)
                self.assertEqual(value_at(("z",), 0, x, z), z)

    def test_beyond_the_ends_are_none(self):
        far = 10 ** 6 + 1
        for x, z in ((far, 0), (-far, 0), (0, far), (0, -far), (far, far), (10 ** 29, 0)):
            with self.subTest(x=x, z=z), self.assertRaises(NoPoint):
                value_at(("whole", 1), 0, x, z)


class Boxes(unittest.TestCase):
    def test_of_any_size(self):
        end = 10 ** 6
        for box in ((0, 0, 0, 0), (end, end, end, end), (-end, -end, -end, -end),
                    (-end, 0, end, 0), (0, -end, 0, end), (-end, -end, end, end), (-3, -4, 5, 6)):
            self.assertEqual(bounds_of(("x",), 0, box), (box[0], box[2]))
            self.assertEqual(bounds_of(("z",), 0, box), (box[1], box[3]))

    def test_four_whole_numbers_that_are_none(self):
        far = 10 ** 6 + 1
        for box in ((1, 0, 0, 0), (0, 1, 0, 0), (5, 5, 4, 4), (0, 0, far, 0), (0, 0, 0, far),
                    (-far, 0, 0, 0), (0, -far, 0, 0), (far, far, far, far),
                    (-far, -far, far, far), [0, 0, 1, 1]):
            with self.subTest(box=box), self.assertRaises(NoBox):
                bounds_of(("whole", 1), 0, box)

    def test_what_is_no_four_whole_numbers(self):
        for box in ((0, 0, 1), (0, 0, 1, 1, 1), (), ("a", 0, 1, 1), (0, 0, None, 1), None):
            with self.subTest(box=box), self.assertRaises(NoBox):
                bounds_of(("whole", 1), 0, box)


class Depths(unittest.TestCase):
    def test_sixty_one_within_another(self):
        rules = deep_in(("x",), 59, lambda field: ("plus", field, ("whole", 1)))
        self.assertEqual(value_at(rules, 0, 5, 0), 64)
        rules = deep_in(("x",), 59, lambda field: ("shift", 1000, 0, field))
        self.assertEqual(value_at(rules, 0, 5, 0), 59005)
        rules = deep_in(("x",), 59, lambda field: ("let", "a", field, ("name", "a")))
        self.assertEqual(value_at(rules, 0, 5, 0), 5)

    def test_somewhat_deeper(self):
        rules = deep_in(("x",), 190, lambda field: ("over", field, 1))
        self.assertEqual(value_at(rules, 0, 5, 0), 5)
        rules = deep_in(("nope",), 190, lambda field: ("over", field, 1))
        with self.assertRaises(NoRules) as caught:
            must_rules(rules)
        self.assertEqual(caught.exception.path, (1,) * 190)

    def test_four_hundred_fields(self):
        held = deep_in(("x",), 48, lambda field: ("over", field, 1))
        rules = ("plus", held, ("over", held, 1))
        for name in "abcdef":
            rules = ("let", name, held, rules)
        # 100 fields and six lets of 1 + 49 make 400.
        self.assertEqual(value_at(rules, 0, 5, 0), 10)


if __name__ == "__main__":
    unittest.main()
