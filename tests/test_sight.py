"""Point 20: what is seen from above one point to above another."""

import unittest
from fractions import Fraction

from landweave.errors import NoCount, NoPoint
from landweave.land import Land
from landweave.sight import EYE, sees
from tests.helper import Chance
from tests.plain_ground import plain_sight
from tests.test_land import HILLS, land_of

END = 10 ** 6
FLAT = ("whole", 5)


class Sight(unittest.TestCase):
    def look(self, land, one, other, eye=EYE):
        told = sees(land, one, other, eye=eye)
        self.assertEqual(told, plain_sight(land.height, one, other, eye))
        self.assertIs(type(told), tuple)
        if told[0] == "sees" and told[1] is not None:
            top, bottom = told[1]
            self.assertGreater(bottom, 0)
            self.assertEqual((Fraction(top, bottom).numerator, Fraction(top, bottom).denominator), (top, bottom))
        return told

    def test_the_number_of_an_eye(self):
        self.assertEqual(EYE, 2)
        land = Land(FLAT, 1)
        self.assertEqual(sees(land, (0, 0), (9, 0)), ("sees", (2, 1)))
        self.assertEqual(sees(land, (0, 0), (9, 0), eye=2), ("sees", (2, 1)))
        for eye in (0, 1, 1000):
            self.assertEqual(sees(land, (0, 0), (9, 3), eye=eye), ("sees", (eye, 1)))

    def test_near_ones(self):
        land = Land(("noise", 3, 0), 1)
        for other in ((0, 0), (1, 0), (0, 1), (1, 1), (-1, 1), (-1, -1), (0, -1)):
            self.assertEqual(sees(land, (0, 0), other), ("sees", None))
            self.assertEqual(sees(land, (0, 0), other, eye=0), ("sees", None))
        for other in ((2, 0), (0, 2), (-2, 1), (2, 2), (1, -2)):
            self.look(land, (0, 0), other, 1000)

    def test_far_ones(self):
        land = Land(HILLS, 1)
        for other in ((200, 0), (0, 200), (-200, 0), (0, -200), (200, -200), (199, 200), (-200, 37)):
            self.look(land, (0, 0), other, 1000)
            self.look(land, other, (0, 0), 1000)
        for other in ((201, 0), (0, 201), (-201, 0), (0, -201), (201, 201), (3, 201), (END, END)):
            for eye in (2, -1, 1001):
                with self.subTest(other=other), self.assertRaises(NoPoint):
                    sees(land, (0, 0), other, eye=eye)
                with self.subTest(other=other), self.assertRaises(NoPoint):
                    sees(land, other, (0, 0), eye=eye)

    def test_along_and_askew_both_ways(self):
        for rules in (HILLS, ("over", ("noise", 3, 1), 3000), ("over", ("noise", 3, 0), 30000)):
            land = Land(rules, 4)
            for one in ((0, 0), (-13, 40), (1000, -1000)):
                for dx, dz in ((9, 0), (0, 9), (9, 9), (9, 4), (4, 9), (-9, 2), (2, -8), (-7, -7), (8, 3), (3, 40)):
                    other = (one[0] + dx, one[1] + dz)
                    for eye in (0, 2, 300):
                        self.look(land, one, other, eye)
                        self.look(land, other, one, eye)

    def test_by_chance(self):
        chance = Chance(330)
        rules = chance.many_rules(20, 3) + [("over", ("noise", 4, 2), 9000), ("over", ("noise", 5, 1), 20000)] * 10
        seen = {"hidden": 0, "sees": 0}
        for first in rules:
            land = land_of(first, 7, chance.edits(chance.random.randint(0, 8), (-20, -20, 20, 20), rules))
            for _ in range(10):
                box = chance.part((-24, -24, 24, 24))
                one, other = chance.random.choice(((box[:2], box[2:]), ((box[0], box[3]), (box[2], box[1]))))
                seen[self.look(land, one, other, chance.random.choice((0, 1, 2, 40, 1000)))[0]] += 1
        self.assertGreater(min(seen.values()), 50, seen)

    def test_halves_to_the_lesser_number(self):
        # Halfway from 0 to 1 the point is at 0; from 0 to -1 it is at -1, below 0 as above.
        for one, other, point in (((0, 0), (2, 1), (1, 0)), ((0, 0), (2, -1), (1, -1)), ((0, 1), (2, 0), (1, 0)),
                                  ((0, -1), (2, 0), (1, -1)), ((0, -5), (2, -4), (1, -5)), ((0, -5), (2, -6), (1, -6)),
                                  ((0, 0), (1, 2), (0, 1)), ((0, 0), (-1, 2), (-1, 1)), ((3, 7), (-1, 8), (1, 7)),
                                  ((0, 0), (4, 3), (2, 1)), ((0, 0), (4, -3), (2, -2)), ((0, 0), (4, 1), (2, 0))):
            land = land_of(FLAT, 1, [("set", (*point, *point), 999)])
            self.assertEqual(self.look(land, one, other), ("hidden", point))
            beside = land_of(FLAT, 1, [("set", (point[0], point[1] + 1, point[0], point[1] + 1), 999)])
            if abs(other[1] - one[1]) < abs(other[0] - one[0]):
                self.assertEqual(self.look(beside, one, other), ("sees", (2, 1)))

    def test_thirds_to_the_nearer_number(self):
        for dz, zs in ((1, (0, 1)), (2, (1, 1)), (-1, (0, -1)), (-2, (-1, -1))):
            for at, z in enumerate(zs, 1):
                land = land_of(FLAT, 1, [("set", (at, z, at, z), 999)])
                self.assertEqual(self.look(land, (0, 0), (3, dz)), ("hidden", (at, z)))

    def test_a_hill_as_high_as_the_sight_and_one_higher(self):
        for eye in (0, 2, 1000):
            for at in (1, 5, 9):
                for by, told in ((-1, ("sees", (1, 1))), (0, ("sees", (0, 1))), (1, ("hidden", (at, 0)))):
                    land = land_of(FLAT, 1, [("set", (at, 0, at, 0), 5 + eye + by)])
                    if by < 0 and eye == 0:
                        told = ("sees", (0, 1))
                    self.assertEqual(self.look(land, (0, 0), (10, 0), eye), told)

    def test_two_hills(self):
        land = land_of(FLAT, 1, [("set", (3, 0, 3, 0), 90), ("set", (7, 0, 7, 0), 95)])
        self.assertEqual(self.look(land, (0, 0), (10, 0)), ("hidden", (3, 0)))
        self.assertEqual(self.look(land, (10, 0), (0, 0)), ("hidden", (7, 0)))
        land.edit(("set", (3, 0, 3, 0), 7))
        self.assertEqual(self.look(land, (0, 0), (10, 0)), ("hidden", (7, 0)))
        # The ends themselves hide nothing.
        self.assertEqual(self.look(land, (3, 0), (7, 0))[0], "sees")

    def test_rooms_in_lowest_terms(self):
        land = land_of(("whole", 0), 1, [("set", (6, 0, 6, 0), 4)])
        self.assertEqual(self.look(land, (0, 0), (6, 0), 0), ("sees", (2, 3)))
        self.assertEqual(self.look(land, (0, 0), (6, 0), 2), ("sees", (8, 3)))
        land.edit(("set", (3, 0, 3, 0), 2))
        self.assertEqual(self.look(land, (0, 0), (6, 0), 0), ("sees", (0, 1)))
        land.edit(("set", (3, 0, 3, 0), 1))
        self.assertEqual(self.look(land, (0, 0), (6, 0), 0), ("sees", (2, 3)))
        land.edit(("set", (1, 0, 5, 0), -10 ** 8))
        self.assertEqual(self.look(land, (0, 0), (6, 0), 0), ("sees", (3 * 10 ** 8 + 2, 3)))
        land = land_of(("whole", 0), 1, [("set", (0, 0, 0, 0), 3), ("set", (4, 0, 4, 0), 5)])
        self.assertEqual(self.look(land, (0, 0), (4, 0), 0), ("sees", (7, 2)))
        self.assertEqual(self.look(land, (4, 0), (0, 0), 0), ("sees", (7, 2)))

    def test_below_zero(self):
        land = land_of(("whole", -500), 1, [("set", (5, 5, 5, 5), -499)])
        self.assertEqual(self.look(land, (0, 0), (9, 9), 0), ("hidden", (5, 5)))
        self.assertEqual(self.look(land, (0, 0), (9, 9), 1), ("sees", (0, 1)))

    def test_great_heights(self):
        steep = ("times", ("times", ("x",), ("x",)), ("times", ("x",), ("whole", 99999999)))
        land = Land(steep, 1)
        for one, other in (((0, 0), (200, 3)), ((END, 0), (END - 200, 3)), ((-END, 9), (99 - END, -90))):
            self.look(land, one, other)
            self.look(land, other, one)

    def test_at_the_ends_of_the_land(self):
        land = Land(HILLS, 1)
        for one in ((END, END), (-END, END), (END, -END), (-END, -END)):
            inward = [-150 if part > 0 else 150 for part in one]
            for other in ((one[0] + inward[0], one[1]), (one[0], one[1] + inward[1]), (one[0] + inward[0], one[1] + inward[1])):
                self.look(land, one, other, 500)
                self.look(land, other, one, 500)

    def test_points_that_are_none(self):
        land = Land(HILLS, 1)
        for bad in ((END + 1, 0), (0, END + 1), (-END - 1, 0), (0, 10 ** 29), (True, 0), (0, False), (0,), None):
            for eye in (2, -1, 1001):
                for one, other in ((bad, (0, 0)), ((0, 0), bad), (bad, bad)):
                    with self.subTest(one=one, other=other), self.assertRaises(NoPoint):
                        sees(land, one, other, eye=eye)

    def test_eyes_that_are_none(self):
        land = Land(HILLS, 1)
        for eye in (-1, 1001, 10 ** 29, -10 ** 29, True, False):
            for other in ((0, 0), (1, 0), (9, 9), (200, 0)):
                with self.subTest(eye=eye), self.assertRaises(NoCount):
                    sees(land, (0, 0), other, eye=eye)

    def test_by_names(self):
        land = Land(HILLS, 1)
        self.assertEqual(sees(eye=5, other=(9, 4), one=(1, 1), land=land), sees(land, (1, 1), (9, 4), eye=5))
        with self.assertRaises(TypeError):
            sees(land, (1, 1), (9, 4), 5)


if __name__ == "__main__":
    unittest.main()
