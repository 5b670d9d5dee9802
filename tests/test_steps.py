"""Point 8: steps_of and run_steps."""

import unittest

from landweave.fields import run_steps, steps_of, value_at
from tests.helper import Chance, deep_in, plain_noise, plain_steps, plain_value

X, Z = ("x",), ("z",)
END = 10 ** 6


def name(told):
    return ("name", told)


class Steps(unittest.TestCase):
    def told(self, rules, steps):
        self.assertEqual(steps_of(rules), steps)

    def test_of_ends(self):
        self.told(("whole", -7), [("whole", -7)])
        self.told(X, [("x", 0)])
        self.told(Z, [("z", 0)])
        self.told(("noise", 3, 4), [("noise", 3, 4, 0, 0)])

    def test_of_two_fields(self):
        for word in ("plus", "less", "times", "least", "most"):
            self.told((word, X, Z), [("x", 0), ("z", 0), (word, 0, 1)])
            self.told((word, Z, X), [("z", 0), ("x", 0), (word, 0, 1)])

    def test_of_over_and_below(self):
        self.told(("over", Z, 12), [("z", 0), ("over", 0, 12)])
        self.told(("below", X, Z, ("whole", 1), ("whole", 2)),
                  [("x", 0), ("z", 0), ("whole", 1), ("whole", 2), ("below", 0, 1, 2, 3)])

    def test_parts_stand_ahead_in_order(self):
        self.told(("plus", ("less", X, ("whole", 1)), ("times", Z, ("whole", 2))),
                  [("x", 0), ("whole", 1), ("less", 0, 1), ("z", 0), ("whole", 2), ("times", 3, 4),
                   ("plus", 2, 5)])
        self.told(("below", ("over", X, 2), X, ("over", Z, 2), Z),
                  [("x", 0), ("over", 0, 2), ("z", 0), ("over", 2, 2), ("below", 1, 0, 3, 2)])

    def test_none_twice(self):
        self.told(("plus", X, X), [("x", 0), ("plus", 0, 0)])
        self.told(("below", X, X, X, X), [("x", 0), ("below", 0, 0, 0, 0)])
        self.told(("plus", ("times", X, Z), ("less", ("times", X, Z), ("noise", 1, 1))),
                  [("x", 0), ("z", 0), ("times", 0, 1), ("noise", 1, 1, 0, 0), ("less", 2, 3),
                   ("plus", 2, 4)])
        self.told(("plus", ("times", X, Z), ("times", Z, X)),
                  [("x", 0), ("z", 0), ("times", 0, 1), ("times", 1, 0), ("plus", 2, 3)])

    def test_whole_numbers_are_no_step_numbers(self):
        self.told(("plus", ("over", X, 1), ("over", X, 2)),
                  [("x", 0), ("over", 0, 1), ("over", 0, 2), ("plus", 1, 2)])
        self.told(("plus", ("noise", 0, 0), ("noise", 0, 1)),
                  [("noise", 0, 0, 0, 0), ("noise", 0, 1, 0, 0), ("plus", 0, 1)])


class Shifts(unittest.TestCase):
    def told(self, rules, steps):
        self.assertEqual(steps_of(rules), steps)

    def test_carried_inward(self):
        self.told(("shift", 5, -6, X), [("x", 5)])
        self.told(("shift", 5, -6, Z), [("z", -6)])
        self.told(("shift", 5, -6, ("noise", 1, 2)), [("noise", 1, 2, 5, -6)])
        self.told(("shift", 5, -6, ("whole", 9)), [("whole", 9)])
        self.told(("shift", 5, -6, ("over", ("plus", X, Z), 3)),
                  [("x", 5), ("z", -6), ("plus", 0, 1), ("over", 2, 3)])

    def test_added_up(self):
        self.told(("shift", 5, -6, ("shift", 10, 20, ("noise", 1, 2))), [("noise", 1, 2, 15, 14)])
        self.told(("shift", 5, -6, ("plus", X, ("shift", 10, 20, ("plus", X, Z)))),
                  [("x", 5), ("x", 15), ("z", 14), ("plus", 1, 2), ("plus", 0, 3)])
        self.told(deep_in(X, 59, lambda field: ("shift", 1000, 0, field)), [("x", 59000)])

    def test_alike_ones_by_what_they_come_to(self):
        self.told(("plus", X, ("shift", 0, 9, X)), [("x", 0), ("plus", 0, 0)])
        self.told(("plus", Z, ("shift", 9, 0, Z)), [("z", 0), ("plus", 0, 0)])
        self.told(("plus", X, ("shift", 3, 0, ("shift", -3, 0, X))), [("x", 0), ("plus", 0, 0)])
        self.told(("plus", ("noise", 1, 1), ("shift", 0, 9, ("noise", 1, 1))),
                  [("noise", 1, 1, 0, 0), ("noise", 1, 1, 0, 9), ("plus", 0, 1)])
        self.told(("plus", ("whole", 1), ("shift", 4, 9, ("whole", 1))), [("whole", 1), ("plus", 0, 0)])


class Lets(unittest.TestCase):
    def told(self, rules, steps):
        self.assertEqual(steps_of(rules), steps)

    def test_steps_come_where_a_name_first_asks(self):
        self.told(("let", "a", ("plus", X, X), ("times", Z, name("a"))),
                  [("z", 0), ("x", 0), ("plus", 1, 1), ("times", 0, 2)])
        self.told(("let", "a", X, ("let", "b", Z, ("plus", name("b"), ("plus", name("a"), name("b"))))),
                  [("z", 0), ("x", 0), ("plus", 1, 0), ("plus", 0, 2)])

    def test_a_field_that_no_name_asks_for(self):
        self.told(("let", "a", ("times", Z, Z), X), [("x", 0)])
        self.told(("let", "a", Z, ("let", "b", ("over", name("a"), 2), X)), [("x", 0)])
        self.told(("let", "a", Z, ("let", "a", X, name("a"))), [("x", 0)])

    def test_names_have_no_steps(self):
        self.told(("let", "a", X, name("a")), [("x", 0)])
        self.told(("let", "a", X, ("let", "b", name("a"), ("plus", name("a"), name("b")))),
                  [("x", 0), ("plus", 0, 0)])

    def test_names_within_shifts(self):
        self.told(("let", "a", ("plus", X, ("noise", 1, 1)),
                   ("less", name("a"), ("shift", 2, 3, name("a")))),
                  [("x", 0), ("noise", 1, 1, 0, 0), ("plus", 0, 1), ("x", 2), ("noise", 1, 1, 2, 3),
                   ("plus", 3, 4), ("less", 2, 5)])
        self.told(("shift", 1, 1, ("let", "a", ("shift", 2, 2, X), ("shift", 4, 4, name("a")))),
                  [("x", 7)])

    def test_names_exchanged_within_names(self):
        rules = ("let", "a", X, ("let", "b", ("shift", 1, 0, ("plus", name("a"), Z)),
                 ("let", "a", ("whole", 5), ("times", name("b"), name("a")))))
        self.told(rules, [("x", 1), ("z", 0), ("plus", 0, 1), ("whole", 5), ("times", 2, 3)])


class Running(unittest.TestCase):
    def test_each_word(self):
        for steps, found in (
                ([("whole", 4)], 4), ([("x", 9)], 12), ([("z", 9)], 5),
                ([("noise", 4, 5, 10, 20)], plain_noise(4, 5, 8, 13, 16)),
                ([("x", 0), ("z", 0), ("plus", 0, 1)], -1), ([("x", 0), ("z", 0), ("less", 0, 1)], 7),
                ([("x", 0), ("z", 0), ("times", 0, 1)], -12),
                ([("x", 0), ("z", 0), ("least", 0, 1)], -4), ([("x", 0), ("z", 0), ("most", 0, 1)], 3),
                ([("z", 1), ("over", 0, 2)], -2),
                ([("x", 0), ("z", 0), ("below", 0, 1, 0, 1)], -4),
                ([("x", 0), ("z", 0), ("below", 1, 0, 0, 1)], 3),
                ([("x", 0), ("z", 0), ("below", 0, 0, 0, 1)], -4)):
            with self.subTest(steps=steps):
                self.assertEqual(run_steps(steps, 8, 3, -4), found)

    def test_the_last_one_counts(self):
        steps = steps_of(("plus", ("less", X, ("whole", 1)), Z))
        for many, found in ((1, 3), (2, 1), (3, 2), (4, -4), (5, -2)):
            self.assertEqual(run_steps(steps[:many], 0, 3, -4), found)

    def test_beyond_the_land_nothing_is_refused(self):
        for x, z in ((END + 1, 0), (0, -END - 1), (5 * END, -7 * END), (-10 ** 9, 10 ** 9)):
            self.assertEqual(run_steps([("x", 5)], 0, x, z), x + 5)
            self.assertEqual(run_steps([("z", 5)], 0, x, z), z + 5)
            self.assertEqual(run_steps([("noise", 3, 8, 1, 2)], 6, x, z), plain_noise(3, 8, 6, x + 1, z + 2))

    def test_seeds_of_any_kind(self):
        for seed in (0, 10 ** 9, 10 ** 9 + 63):
            self.assertEqual(run_steps([("noise", 3, 4, 0, 0)], seed, 5, 6), plain_noise(3, 4, seed, 5, 6))


class ByChance(unittest.TestCase):
    def test_steps_are_those_of_the_document(self):
        for rules in Chance(8).many_rules(300, 5):
            with self.subTest(rules=rules):
                self.assertEqual(steps_of(rules), plain_steps(rules))

    def test_their_value_is_that_of_the_rules(self):
        chance = Chance(88)
        for rules in chance.many_rules(200, 5):
            steps = steps_of(rules)
            for _ in range(3):
                seed, (x, z) = chance.seed(), chance.point()
                found = run_steps(steps, seed, x, z)
                self.assertEqual(found, value_at(rules, seed, x, z))
                self.assertEqual(found, plain_value(rules, seed, x, z))

    def test_each_step_refers_to_those_ahead_of_it(self):
        for rules in Chance(888).many_rules(100, 5):
            steps = steps_of(rules)
            self.assertEqual(len(set(steps)), len(steps))
            for at, step in enumerate(steps):
                places = {"over": step[1:2]}.get(step[0], step[1:])
                if step[0] not in ("whole", "x", "z", "noise"):
                    self.assertTrue(all(0 <= number < at for number in places))


if __name__ == "__main__":
    unittest.main()
