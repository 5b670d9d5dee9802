"""Points 9 and 4: bounds_of, and that told bounds hold."""

import unittest

from landweave.errors import NoBox, NoRules
from landweave.fields import bounds_of, value_at
from tests.helper import Chance, bare, plain_noise, plain_range, points_in

X, Z = ("x",), ("z",)
END = 10 ** 6
BOX = (-3, -5, 4, 2)


def whole(number):
    return ("whole", number)


class Words(unittest.TestCase):
    def told(self, rules, low, high, box=BOX):
        self.assertEqual(bounds_of(rules, 9, box), (low, high))

    def test_of_ends(self):
        self.told(whole(-7), -7, -7)
        self.told(X, -3, 4)
        self.told(Z, -5, 2)

    def test_plus_and_less(self):
        self.told(("plus", X, Z), -8, 6)
        self.told(("less", X, Z), -5, 9)
        self.told(("less", Z, X), -9, 5)
        self.told(("less", X, X), -7, 7)

    def test_times(self):
        self.told(("times", X, Z), -20, 15)
        self.told(("times", X, X), -12, 16)
        self.told(("times", Z, Z), -10, 25)
        self.told(("times", X, whole(-2)), -8, 6)
        self.told(("times", whole(0), X), 0, 0)
        self.told(("times", X, Z), 2, 12, (1, 2, 3, 4))
        self.told(("times", X, Z), 2, 12, (-3, -4, -1, -2))
        self.told(("times", X, Z), -12, -2, (-3, 2, -1, 4))

    def test_least_and_most(self):
        self.told(("least", X, Z), -5, 2)
        self.told(("most", X, Z), -3, 4)
        self.told(("least", X, whole(0)), -3, 0)
        self.told(("most", X, whole(0)), 0, 4)
        self.told(("least", X, whole(99)), -3, 4)
        self.told(("most", X, whole(99)), 99, 99)

    def test_over(self):
        self.told(("over", X, 2), -2, 2)
        self.told(("over", Z, 3), -2, 0)
        self.told(("over", X, 1), -3, 4)
        self.told(("over", X, 10 ** 9), -1, 0)

    def test_below(self):
        then, other = ("plus", X, whole(100)), ("plus", X, whole(200))
        self.told(("below", X, whole(5), then, other), 97, 104)
        self.told(("below", X, whole(4), then, other), 97, 204)
        self.told(("below", X, whole(-3), then, other), 197, 204)
        self.told(("below", X, whole(-2), then, other), 97, 204)
        self.told(("below", whole(4), whole(4), then, other), 197, 204)
        self.told(("below", X, Z, other, then), 97, 204)

    def test_shift(self):
        self.told(("shift", 10, 100, X), 7, 14)
        self.told(("shift", 10, 100, Z), 95, 102)
        self.told(("shift", 10, 100, ("shift", -1, 1, ("plus", X, Z))), 6 + 96, 13 + 103)

    def test_names(self):
        self.told(("let", "a", X, ("plus", ("name", "a"), ("name", "a"))), -6, 8)
        self.told(("let", "a", X, ("plus", ("name", "a"), ("shift", 10, 0, ("name", "a")))), 4, 18)

    def test_of_the_whole_land(self):
        land = (-END, -END, END, END)
        self.told(X, -END, END, land)
        self.told(("shift", 1000, -1000, ("plus", X, Z)), -2 * END, 2 * END, land)
        self.told(("noise", 3, 8), 0, 65535, land)


class Noise(unittest.TestCase):
    def looked(self, log, box, seed=5, salt=6):
        """The least and greatest of all points of a box."""
        values = [plain_noise(salt, log, seed, x, z) for x, z in points_in(box)]
        return (min(values), max(values))

    def test_of_at_most_64_squares(self):
        for log in range(4):
            size = 2 ** log
            for box in ((0, 0, 8 * size - 1, 8 * size - 1), (0, 0, 64 * size - 1, size - 1),
                        (0, 0, size - 1, 64 * size - 1), (size - 1, size - 1, 2 * size, 3 * size),
                        (-4 * size, -4 * size, 4 * size - 1, 4 * size - 1),
                        (3 * size - 1, 5, 3 * size - 1, 5 + 20 * size), (1, 1, size, size)):
                with self.subTest(log=log, box=box):
                    self.assertEqual(bounds_of(("noise", 6, log), 5, box), self.looked(log, box))

    def test_of_more(self):
        for log in range(9):
            size = 2 ** log
            for box in ((0, 0, 8 * size, 8 * size - 1), (0, 0, 8 * size - 1, 8 * size),
                        (-1, 0, 8 * size - 1, 8 * size - 1), (0, 0, 64 * size, 0),
                        (0, 0, 0, 64 * size), (size - 1, 0, 65 * size - 1, 0)):
                with self.subTest(log=log, box=box):
                    self.assertEqual(bounds_of(("noise", 6, log), 5, box), (0, 65535))

    def test_64_great_squares(self):
        for log in (6, 7, 8):
            size = 2 ** log
            box = (-size, 3, 7 * size - 1, 8 * size - 1)
            values = []
            for i in range(-1, 7):
                for j in range(8):
                    for x in (i * size, i * size + size - 1):
                        for z in (max(3, j * size), j * size + size - 1):
                            values.append(plain_noise(6, log, 5, x, z))
            self.assertEqual(bounds_of(("noise", 6, log), 5, box), (min(values), max(values)))

    def test_across_0(self):
        for log in range(9):
            for box in ((-1, -1, 0, 0), (-5, -6, 7, 0), (-1, -7, -1, 7), (0, -1, 0, 0)):
                if log > 0:
                    self.assertEqual(bounds_of(("noise", 6, log), 5, box), self.looked(log, box))
        self.assertEqual(bounds_of(("noise", 6, 0), 5, (-5, -6, 2, 1)), self.looked(0, (-5, -6, 2, 1)))
        self.assertEqual(bounds_of(("noise", 6, 0), 5, (-5, -6, 3, 1)), (0, 65535))

    def test_at_the_corners_of_the_land(self):
        for log in range(9):
            for x in (-END, END - 4):
                for z in (-END, END - 4):
                    box = (x, z, x + 4, z + 4)
                    self.assertEqual(bounds_of(("noise", 6, log), 5, box), self.looked(log, box))

    def test_shifted_beyond_the_land(self):
        rules = ("shift", 1000, 1000, ("shift", 999, -1, ("noise", 6, 4)))
        for x in (-END, END - 4):
            for z in (-END, END - 4):
                shifted = (x + 1999, z + 999, x + 2003, z + 1003)
                self.assertEqual(bounds_of(rules, 5, (x, z, x + 4, z + 4)), self.looked(4, shifted))

    def test_squares_are_counted_where_the_shift_puts_the_box(self):
        box = (0, 0, 31, 31)
        self.assertEqual(bounds_of(("noise", 6, 2), 5, box), self.looked(2, box))
        self.assertEqual(bounds_of(("shift", 1, 0, ("noise", 6, 2)), 5, box), (0, 65535))
        self.assertEqual(bounds_of(("shift", 0, 1, ("noise", 6, 2)), 5, box), (0, 65535))
        self.assertEqual(bounds_of(("shift", 4, 4, ("noise", 6, 2)), 5, box), self.looked(2, (4, 4, 35, 35)))
        self.assertEqual(bounds_of(("shift", 1, 1, ("noise", 6, 2)), 5, (3, 3, 34, 34)),
                         self.looked(2, (4, 4, 35, 35)))

    def test_seeds_and_salts(self):
        for seed, salt in ((0, 0), (10 ** 9, 10 ** 9), (3, 4)):
            box = (-9, -9, 9, 9)
            self.assertEqual(bounds_of(("noise", salt, 3), seed, box), self.looked(3, box, seed, salt))


class Holding(unittest.TestCase):
    def test_ranges_are_those_of_the_document(self):
        chance = Chance(9)
        for rules in chance.many_rules(250, 5):
            seed, box = chance.seed(), chance.box(9)
            with self.subTest(rules=rules, seed=seed, box=box):
                self.assertEqual(bounds_of(rules, seed, box), plain_range(bare(rules), seed, box))

    def test_each_value_lies_between(self):
        chance = Chance(99)
        for rules in chance.many_rules(80, 5):
            seed, box = chance.seed(), chance.box(5)
            low, high = bounds_of(rules, seed, box)
            for x, z in points_in(box):
                with self.subTest(rules=rules, seed=seed, x=x, z=z):
                    self.assertTrue(low <= value_at(rules, seed, x, z) <= high)

    def test_parts_are_no_wider(self):
        chance = Chance(999)
        for rules in chance.many_rules(150, 5):
            seed, box = chance.seed(), chance.box(80)
            low, high = bounds_of(rules, seed, box)
            for _ in range(4):
                part = chance.part(box)
                least, most = bounds_of(rules, seed, part)
                with self.subTest(rules=rules, seed=seed, box=box, part=part):
                    self.assertTrue(low <= least <= most <= high)

    def test_of_one_point_both_are_the_value(self):
        chance = Chance(9999)
        for rules in chance.many_rules(200, 5):
            seed, (x, z) = chance.seed(), chance.point()
            with self.subTest(rules=rules, seed=seed, x=x, z=z):
                value = value_at(rules, seed, x, z)
                self.assertEqual(bounds_of(rules, seed, (x, z, x, z)), (value, value))


class Refusing(unittest.TestCase):
    def test_no_box(self):
        for box in ((1, 0, 0, 0), (0, 1, 0, 0), (0, 0, END + 1, 0), (0, -END - 1, 0, 0)):
            with self.subTest(box=box), self.assertRaises(NoBox):
                bounds_of(X, 0, box)

    def test_no_box_behind_no_rules(self):
        with self.assertRaises(NoRules) as caught:
            bounds_of(("plus", X, ("nope",)), 0, (1, 0, 0, 0))
        self.assertEqual((caught.exception.path, caught.exception.why), ((2,), "kind"))


if __name__ == "__main__":
    unittest.main()
