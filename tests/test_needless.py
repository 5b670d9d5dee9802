"""Point 15: edits that aren't needed, lands without them, and what covers an edit."""

import unittest

from landweave.errors import NoDeed, NoSuch
from landweave.land import Land, covered_by, needless, thinned
from tests.helper import Chance, points_in
from tests.test_deeds import numbers
from tests.test_land import HILLS, land_of

BOX, GREATER, BESIDE = (0, 0, 4, 4), (-1, 0, 4, 9), (1, 0, 9, 9)


def plain_covered(edits, number):
    """covered_by, straight by point 15, all points of a copy's box gone through."""
    place = [told for told, _ in edits].index(number)
    box = edits[place][1][1]
    points = set(points_in(box))
    for other, edit in edits[place + 1:]:
        reach = set(points_in(edit[1]))
        if edit[0] == "copy" and {(x + edit[2], z + edit[3]) for x, z in reach} & points:
            return ("stands", other)
        if edit[0] in ("set", "field") and points <= reach:
            return ("covered", other)
    return ("stands", None)


class Covered(unittest.TestCase):
    def told(self, edits, *told):
        land = land_of(HILLS, 3, edits)
        self.assertEqual([covered_by(land, number) for number in numbers(land)], list(told))
        self.assertEqual(needless(land), [at for at, one in enumerate(told, 1) if one[0] == "covered"])

    def test_by_sets_and_fields(self):
        stands = ("stands", None)
        for first in (("set", BOX, 1), ("raise", BOX, 1), ("least", BOX, 1), ("most", BOX, 1),
                      ("field", BOX, ("x",)), ("copy", BOX, 50, 50)):
            for last in (("set", BOX, 2), ("set", GREATER, 2), ("field", BOX, HILLS), ("field", GREATER, HILLS)):
                self.told([first, last], ("covered", 2), stands)
            for last in (("set", BESIDE, 2), ("raise", GREATER, 2), ("least", GREATER, 2), ("most", GREATER, 2),
                         ("field", (0, 0, 4, 3), HILLS), ("copy", GREATER, 50, 50)):
                self.told([first, last], stands, stands)

    def test_the_first_one_is_told(self):
        self.told([("set", BOX, 1), ("set", BESIDE, 1), ("set", GREATER, 1), ("set", BOX, 1)],
                  ("covered", 3), ("stands", None), ("stands", None), ("stands", None))

    def test_copies_that_read_between(self):
        cover = ("set", GREATER, 1)
        stands = ("stands", None)
        reader, other = ("copy", (10, 0, 11, 9), -6, 0), ("copy", (10, 0, 11, 9), -5, 0)
        self.told([("raise", BOX, 1), reader, cover], ("stands", 2), stands, stands)
        self.told([("raise", BOX, 1), other, cover], ("covered", 3), stands, stands)
        self.told([("raise", BOX, 1), cover, reader], ("covered", 2), ("stands", 3), stands)
        self.told([reader, ("raise", BOX, 1), cover], stands, ("covered", 3), stands)
        self.told([("raise", BOX, 1), other, reader], ("stands", 3), ("stands", None), stands)

    def test_copies_that_touch_by_a_corner(self):
        for dx, dz, told in ((-6, -5, ("stands", 2)), (-5, -5, ("covered", 3)), (-6, -4, ("covered", 3)),
                             (-12, -12, ("covered", 3)), (-11, -10, ("stands", 2)), (-11, -12, ("covered", 3))):
            self.told([("raise", BOX, 1), ("copy", (10, 9, 11, 10), dx, dz), ("set", GREATER, 1)],
                      told, ("stands", None), ("stands", None))

    def test_by_places_and_not_by_numbers(self):
        land = land_of(HILLS, 3, [("set", GREATER, 1), ("raise", BOX, 1), ("raise", BOX, 2)])
        self.assertEqual(needless(land), [])
        land.swap(1, 3)
        self.assertEqual(numbers(land), [3, 2, 1])
        self.assertEqual(needless(land), [2, 3])
        self.assertEqual(covered_by(land, 3), ("covered", 1))
        self.assertEqual(covered_by(land=land, number=1), ("stands", None))

    def test_refused(self):
        land = land_of(HILLS, 3, [("set", GREATER, 1), ("raise", BOX, 1)])
        land.drop(1)
        for number in (1, 0, 3, -1, 10 ** 29):
            with self.assertRaises(NoSuch) as caught:
                covered_by(land, number)
            self.assertEqual(caught.exception.number, number)

    def test_by_chance(self):
        chance = Chance(160)
        for many in (2, 4, 8, 16):
            for _ in range(25):
                edits = chance.edits(many, (-9, -9, 9, 9), [HILLS, ("x",)])
                land = land_of(HILLS, 3, edits)
                told = {number: plain_covered(land.edits(), number) for number in numbers(land)}
                self.assertEqual({number: covered_by(land, number) for number in told}, told)
                self.assertEqual(needless(land), [number for number in told if told[number][0] == "covered"])


class Thinned(unittest.TestCase):
    def test_the_same_heights(self):
        chance = Chance(161)
        gone = 0
        for _ in range(30):
            edits = chance.edits(12, (-9, -9, 9, 9), [HILLS, ("x",)])
            land = land_of(HILLS, 3, edits)
            thin = thinned(land)
            gone += len(land) - len(thin)
            self.assertEqual(thin.heights(-12, -12, 25, 25, 1), land.heights(-12, -12, 25, 25, 1))
            self.assertEqual(thin.height(3, -4), land.height(3, -4))
            self.assertEqual(thin.edits(), [row for row in land.edits() if row[0] not in needless(land)])
        self.assertGreater(gone, 20)

    def test_numbers_and_deeds(self):
        land = land_of(HILLS, 3, [("raise", BOX, 1), ("raise", BESIDE, 1), ("set", GREATER, 1), ("set", BOX, 3)])
        land.back()
        before = land.edits()
        thin = thinned(land=land)
        self.assertEqual(thin.edits(), [(2, ("raise", BESIDE, 1)), (3, ("set", GREATER, 1))])
        self.assertEqual(land.edits(), before)
        for asked in (thin.back, thin.again):
            with self.assertRaises(NoDeed):
                asked()
        self.assertEqual((thin.rules(), thin.seed()), (HILLS, 3))
        self.assertGreater(thin.edit(("set", BOX, 4)), 3)
        land.again()
        self.assertEqual(len(land), 4)

    def test_of_none(self):
        land = Land(HILLS, 3)
        self.assertEqual(needless(land), [])
        self.assertTrue(thinned(land) == land)
        self.assertIsNot(thinned(land), land)
        told = needless(land)
        told.append(3)
        self.assertEqual(needless(land), [])


if __name__ == "__main__":
    unittest.main()
