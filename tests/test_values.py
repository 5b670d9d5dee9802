"""Point 6: fields and their values."""

import unittest

from landweave.errors import NoRules
from landweave.fields import must_rules, value_at
from tests.helper import Chance, plain_noise, plain_value

X, Z = ("x",), ("z",)
END = 10 ** 6
POINTS = ((0, 0), (5, 3), (-5, 3), (5, -3), (-5, -3), (1, 0), (0, -1), (255, 256), (-256, -257),
          (END, END), (-END, -END), (END, -END), (-END, END))


def whole(number):
    return ("whole", number)


def name(told):
    return ("name", told)


class Words(unittest.TestCase):
    def told(self, rules, reckon):
        for x, z in POINTS:
            with self.subTest(rules=rules, x=x, z=z):
                self.assertEqual(value_at(rules, 9, x, z), reckon(x, z))

    def test_whole(self):
        for number in (0, 1, -1, 999999999, -999999999):
            self.told(whole(number), lambda x, z: number)

    def test_x_and_z(self):
        self.told(X, lambda x, z: x)
        self.told(Z, lambda x, z: z)

    def test_of_two_fields(self):
        self.told(("plus", X, Z), lambda x, z: x + z)
        self.told(("less", X, Z), lambda x, z: x - z)
        self.told(("times", X, Z), lambda x, z: x * z)
        self.told(("least", X, Z), lambda x, z: x if x < z else z)
        self.told(("most", X, Z), lambda x, z: x if x > z else z)

    def test_over(self):
        for number in (1, 2, 3, 7, 10 ** 9):
            self.told(("over", X, number), lambda x, z: x // number)

    def test_over_rounds_down_below_0(self):
        for value, number, found in ((-1, 2, -1), (-4, 2, -2), (-5, 2, -3), (-1, 10 ** 9, -1),
                                     (5, 2, 2), (0, 7, 0), (-7, 7, -1), (-8, 7, -2)):
            self.assertEqual(value_at(("over", whole(value), number), 0, 0, 0), found)

    def test_below(self):
        self.told(("below", X, Z, whole(1), whole(2)), lambda x, z: 1 if x < z else 2)
        self.told(("below", whole(4), whole(4), X, Z), lambda x, z: z)
        self.told(("below", whole(3), whole(4), X, Z), lambda x, z: x)

    def test_seeds_count_for_noise_alone(self):
        self.assertEqual(value_at(("plus", X, Z), 1, 4, 5), value_at(("plus", X, Z), 2, 4, 5))
        self.assertNotEqual(value_at(("noise", 0, 3), 1, 4, 5), value_at(("noise", 0, 3), 2, 4, 5))


class Noise(unittest.TestCase):
    def test_of_each_log(self):
        for log in range(9):
            size = 2 ** log
            for i, j in ((0, 0), (1, 2), (-1, -1), (-3, 2), (4, -5)):
                for p in sorted({0, 1, size // 2, size - 1}):
                    for q in sorted({0, size // 3, size - 1}):
                        x, z = i * size + p, j * size + q
                        found = value_at(("noise", 11, log), 77, x, z)
                        self.assertEqual(found, plain_noise(11, log, 77, x, z))

    def test_at_knots_it_is_the_knot(self):
        for log in range(9):
            self.assertEqual(value_at(("noise", 0, log), 0, 0, 0), 31582)
            self.assertEqual(value_at(("noise", 0, log), 0, 2 ** log, 0), 3029)
            self.assertEqual(value_at(("noise", 0, log), 0, 0, 2 ** log), 49404)
            self.assertEqual(value_at(("noise", 0, log), 0, -2 ** log, 0), 8303)
            self.assertEqual(value_at(("noise", 0, log), 0, 0, -2 ** log), 11722)
            self.assertEqual(value_at(("noise", 1, log), 0, 0, 0), 17552)
            self.assertEqual(value_at(("noise", 0, log), 1, 0, 0), 37510)

    def test_between_knots(self):
        # The knots at (0, 0) and (1, 0) are 31582 and 3029; with LOG 1 half of both.
        self.assertEqual(value_at(("noise", 0, 1), 0, 1, 0), (31582 + 3029) // 2)
        self.assertEqual(value_at(("noise", 0, 1), 0, 0, 1), (31582 + 49404) // 2)
        self.assertEqual(value_at(("noise", 0, 2), 0, 1, 0), (3 * 31582 + 3029) // 4)
        self.assertEqual(value_at(("noise", 0, 2), 0, 0, 3), (31582 + 3 * 49404) // 4)
        self.assertEqual(value_at(("noise", 0, 1), 0, -1, 0), (8303 + 31582) // 2)

    def test_at_the_ends_of_the_land(self):
        for log in range(9):
            for x, z in ((END, END), (-END, -END), (END, -END), (-END, END)):
                found = value_at(("noise", 10 ** 9, log), 10 ** 9, x, z)
                self.assertEqual(found, plain_noise(10 ** 9, log, 10 ** 9, x, z))


class Shifts(unittest.TestCase):
    def test_one(self):
        rules = ("shift", 7, -9, ("plus", ("times", X, whole(100)), Z))
        self.assertEqual(value_at(rules, 0, 1, 2), 800 - 7)

    def test_within_one_another(self):
        rules = ("shift", 7, 1, ("plus", X, ("shift", 30, 2, ("plus", X, ("times", Z, whole(100))))))
        self.assertEqual(value_at(rules, 0, 0, 0), 7 + 37 + 300)

    def test_of_noise(self):
        rules = ("shift", -1000, 1000, ("shift", -1000, 1, ("noise", 4, 5)))
        self.assertEqual(value_at(rules, 3, 17, -2), plain_noise(4, 5, 3, -1983, 999))

    def test_beyond_the_land(self):
        rules = X
        for _ in range(3):
            rules = ("shift", 1000, -1000, rules)
        self.assertEqual(value_at(rules, 0, END, 0), END + 3000)
        rules = ("shift", 1000, -1000, ("noise", 4, 5))
        self.assertEqual(value_at(rules, 3, END, -END), plain_noise(4, 5, 3, END + 1000, -END - 1000))

    def test_what_stands_beside_is_not_shifted(self):
        self.assertEqual(value_at(("plus", ("shift", 5, 0, X), X), 0, 1, 0), 7)
        self.assertEqual(value_at(("less", X, ("shift", 5, 0, X)), 0, 1, 0), -5)


class Lets(unittest.TestCase):
    def test_a_name_has_the_value_of_its_let(self):
        rules = ("let", "a", ("plus", X, Z), ("times", name("a"), name("a")))
        self.assertEqual(value_at(rules, 0, 3, 4), 49)

    def test_the_nearest_one_counts(self):
        rules = ("let", "a", whole(1), ("plus", ("let", "a", whole(10), name("a")), name("a")))
        self.assertEqual(value_at(rules, 0, 0, 0), 11)
        rules = ("let", "a", whole(1), ("let", "b", whole(2), ("let", "a", whole(3),
                 ("plus", ("times", name("a"), whole(10)), name("b")))))
        self.assertEqual(value_at(rules, 0, 0, 0), 32)

    def test_the_first_field_stands_outside(self):
        rules = ("let", "a", whole(5), ("let", "a", ("plus", name("a"), whole(1)), name("a")))
        self.assertEqual(value_at(rules, 0, 0, 0), 6)
        with self.assertRaises(NoRules):
            must_rules(("let", "a", name("a"), name("a")))

    def test_names_of_the_first_field_have_the_lets_around_it(self):
        # What b holds asks for the a around b, not for the one around b's name.
        rules = ("let", "a", whole(1), ("let", "b", ("plus", name("a"), whole(10)),
                 ("let", "a", whole(2), ("plus", name("b"), ("times", name("a"), whole(100))))))
        self.assertEqual(value_at(rules, 0, 0, 0), 211)

    def test_a_name_within_a_shift(self):
        rules = ("let", "a", X, ("plus", name("a"), ("shift", 50, 0, name("a"))))
        self.assertEqual(value_at(rules, 0, 3, 0), 56)

    def test_a_shift_around_a_let(self):
        rules = ("shift", 50, 0, ("let", "a", X, ("shift", 400, 0, name("a"))))
        self.assertEqual(value_at(rules, 0, 3, 0), 453)

    def test_a_name_within_what_a_shifted_name_stands_for(self):
        rules = ("let", "a", X, ("let", "b", ("shift", 1, 0, name("a")),
                 ("shift", 10, 0, ("plus", name("b"), name("a")))))
        self.assertEqual(value_at(rules, 0, 0, 0), 21)

    def test_a_let_within_a_lets_first_field(self):
        rules = ("let", "a", ("let", "b", X, ("plus", name("b"), whole(1))), ("times", name("a"), name("a")))
        self.assertEqual(value_at(rules, 0, 4, 0), 25)

    def test_a_let_ends_behind_its_second_field(self):
        rules = ("plus", ("let", "a", X, name("a")), name("a"))
        with self.assertRaises(NoRules) as caught:
            must_rules(rules)
        self.assertEqual(caught.exception.path, (2,))

    def test_names_like_words(self):
        rules = ("let", "x", Z, ("let", "plus", whole(7), ("plus", name("x"), name("plus"))))
        self.assertEqual(value_at(rules, 0, 1, 2), 9)

    def test_lengths_of_names(self):
        for told in ("a", "z", "abcdefgh"):
            self.assertEqual(value_at(("let", told, X, name(told)), 0, 1, 2), 1)


class ByChance(unittest.TestCase):
    def test_values_are_those_of_the_document(self):
        chance = Chance(6)
        for rules in chance.many_rules(300, 5):
            for _ in range(4):
                seed, (x, z) = chance.seed(), chance.point()
                with self.subTest(rules=rules, seed=seed, x=x, z=z):
                    self.assertEqual(value_at(rules, seed, x, z), plain_value(rules, seed, x, z))


if __name__ == "__main__":
    unittest.main()
