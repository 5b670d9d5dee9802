"""Point 21: things at points whose knots are greater than all near them."""

import unittest

from landweave.errors import NoBox, NoCount
from landweave.knots import knot
from landweave.land import Land
from landweave.things import FAR, things_in
from tests.helper import Chance, plain_knot, points_in
from tests.test_land import HILLS

END = 10 ** 6
BOX = (0, 0, 31, 31)


def plain_things(seed, salt, box, far, least):
    """Things, straight by point 21: each point held against each pair near it."""
    knots = {place: plain_knot(seed, salt, *place)
             for place in points_in((box[0] - far, box[1] - far, box[2] + far, box[3] + far))}
    found = []
    for x, z in points_in(box):
        own = knots[x, z]
        near = [place for place in points_in((x - far, z - far, x + far, z + far)) if place != (x, z)]
        if own >= least and all(own > knots[place] or own == knots[place] and place > (x, z) for place in near):
            found.append((x, z))
    return found


class Things(unittest.TestCase):
    def test_of_each_far(self):
        for far in range(1, 9):
            for seed, salt, box in ((0, 0, (0, 0, 15, 20)), (7, 10 ** 9, (-30, -9, -11, 9)), (10 ** 9, 3, (-5, 100, 40, 104)),
                                    (5, 5, (4, 4, 4, 4))):
                land = Land(HILLS, seed)
                told = things_in(land, box, salt=salt, far=far)
                self.assertEqual(told, plain_things(seed, salt, box, far, 0))
                self.assertIs(type(told), list)

    def test_no_two_are_near(self):
        for far in (1, 3, 8):
            told = things_in(Land(HILLS, 4), BOX, salt=9, far=far)
            self.assertTrue(told)
            self.assertEqual(told, sorted(told))
            for at, (x, z) in enumerate(told):
                for a, b in told[:at]:
                    self.assertGreater(max(abs(x - a), abs(z - b)), far)

    def test_far_left_out(self):
        land = Land(HILLS, 4)
        self.assertEqual(FAR, 3)
        self.assertEqual(things_in(land, BOX, salt=9), things_in(land, BOX, salt=9, far=3))
        self.assertNotEqual(things_in(land, BOX, salt=9), things_in(land, BOX, salt=9, far=2))

    def test_least(self):
        land = Land(HILLS, 4)
        told = things_in(land, BOX, salt=9, far=2)
        knots = sorted(knot(4, 9, x, z) for x, z in told)
        for least in (knots[0], knots[0] + 1, knots[len(knots) // 2], knots[len(knots) // 2] + 1, knots[-1]):
            self.assertEqual(things_in(land, BOX, salt=9, far=2, least=least), plain_things(4, 9, BOX, 2, least))
        self.assertEqual(len(things_in(land, BOX, salt=9, far=2, least=knots[-1])), 1)
        for least in (knots[-1] + 1, 65536, 10 ** 29):
            self.assertEqual(things_in(land, BOX, salt=9, far=2, least=least), [])
        for least in (0, -1, -10 ** 29, knots[0]):
            self.assertEqual(things_in(land, BOX, salt=9, far=2, least=least), told)

    def test_boxes_cut_in_two(self):
        land = Land(HILLS, 4)
        for far in (1, 3, 8):
            whole = things_in(land, (-9, 3, 20, 30), salt=2, far=far)
            for x in (-9, -5, 0, 7, 19):
                parts = [things_in(land, box, salt=2, far=far) for box in ((-9, 3, x, 30), (x + 1, 3, 20, 30))]
                self.assertEqual(parts[0] + parts[1], whole)
            for z in (3, 8, 29):
                parts = [things_in(land, box, salt=2, far=far) for box in ((-9, 3, 20, z), (-9, z + 1, 20, 30))]
                self.assertEqual(sorted(parts[0] + parts[1]), whole)

    def test_at_the_ends_of_the_land(self):
        for box in ((END - 9, END - 9, END, END), (-END, -END, 12 - END, 12 - END), (END, -END, END, 40 - END),
                    (-END, END - 3, 90 - END, END)):
            for far in (1, 3, 8):
                self.assertEqual(things_in(Land(HILLS, 8), box, salt=1, far=far), plain_things(8, 1, box, far, 0))

    def test_pairs_beyond_the_end_count(self):
        # Some point at the end would bear a thing if nothing beyond were looked at.
        box, far = (END - 1, 0, END, 400), 4
        told = things_in(Land(HILLS, 8), box, salt=1, far=far)
        knots = {place: plain_knot(8, 1, *place) for place in points_in((END - 5, -4, END, 404))}
        alone = [place for place in points_in(box) if all(
            knots[place] >= knots[other] for other in points_in(
                (place[0] - far, place[1] - far, END, place[1] + far)))]
        self.assertLess(len(told), len(alone))
        self.assertLessEqual(set(told), set(alone))

    def test_knots_as_great_as_one_another(self):
        # Of two points that are as great, and greater than all others near both, the first one bears a thing.
        for seed, x, z, dx, dz in ((0, 42, 208, 1, 0), (0, 704, 192, 1, 0), (0, 56, 707, 1, -1), (1, 821, 1161, 1, -1),
                                   (0, 163, 579, 1, 1), (0, 899, 185, 0, 1), (1, 60, 846, 0, 1), (0, 161, 304, 2, 1),
                                   (2, 286, 1115, 3, -3), (2, 1103, 1121, 3, 0)):
            land, far, other = Land(HILLS, seed), max(abs(dx), abs(dz)), (x + dx, z + dz)
            self.assertEqual(plain_knot(seed, 1, x, z), plain_knot(seed, 1, *other))
            self.assertEqual(things_in(land, (x, z, x, z), salt=1, far=far), [(x, z)])
            self.assertEqual(things_in(land, other * 2, salt=1, far=far), [])
            box = (x - 4, z - 5, x + 5, z + 6)
            self.assertEqual(things_in(land, box, salt=1, far=far), plain_things(seed, 1, box, far, 0))
            if far > 1:
                self.assertEqual(things_in(land, other * 2, salt=1, far=far - 1), [other])

    def test_boxes(self):
        land = Land(HILLS, 4)
        for box in ((0, 0, 31, 31), (0, 5, 1023, 5), (-3, -1000, -3, 23)):
            self.assertEqual(things_in(land, box, salt=6, far=2), plain_things(4, 6, box, 2, 0))
        for box in ((0, 0, 31, 32), (0, 0, 1024, 0), (0, 0, 0, 1024), (1, 0, 0, 0), (0, 1, 0, 0), (0, 0, END + 1, 0),
                    (0, True, 1, 1), (10 ** 29,) * 4):
            for far in (3, 0, 9, True):
                with self.subTest(box=box), self.assertRaises(NoBox):
                    things_in(land, box, salt=6, far=far)
        for far in (0, 9, -1, 10 ** 29, True, False):
            with self.subTest(far=far), self.assertRaises(NoCount):
                things_in(land, BOX, salt=6, far=far)

    def test_edits_are_no_matter(self):
        land = Land(HILLS, 4)
        told = things_in(land, BOX, salt=6)
        land.edit(("set", BOX, 5))
        self.assertEqual(things_in(land, BOX, salt=6), told)
        self.assertEqual(things_in(Land(("x",), 4), BOX, salt=6), told)
        self.assertNotEqual(things_in(Land(HILLS, 5), BOX, salt=6), told)
        self.assertNotEqual(things_in(land, BOX, salt=7), told)

    def test_told_lists_may_be_changed(self):
        land = Land(HILLS, 4)
        told = things_in(land, BOX, salt=6)
        kept = list(told)
        told.clear()
        self.assertEqual(things_in(land, BOX, salt=6), kept)

    def test_by_chance(self):
        chance = Chance(400)
        for _ in range(20):
            seed, salt, box = chance.seed(), chance.seed(), chance.box(14)
            far, least = chance.random.randint(1, 8), chance.random.choice((0, 30000, 64000))
            self.assertEqual(things_in(Land(HILLS, seed), box, salt=salt, far=far, least=least),
                             plain_things(seed, salt, box, far, least))

    def test_by_names(self):
        land = Land(HILLS, 4)
        self.assertEqual(things_in(least=9000, far=2, salt=6, box=BOX, land=land),
                         things_in(land, BOX, salt=6, far=2, least=9000))
        with self.assertRaises(TypeError):
            things_in(land, BOX)
        with self.assertRaises(TypeError):
            things_in(land, BOX, 6)


if __name__ == "__main__":
    unittest.main()
