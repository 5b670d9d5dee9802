"""Points 1, 10 and 11: what is kept, how much of it, and what a deed throws away."""

import unittest

from landweave.land import Land, touched_boxes
from landweave.memory import Memory
from landweave.squares import square_at
from tests.test_land import HILLS

NEAR, FAR = (0, 0, 9, 9), (100, 100, 109, 109)


class Memories(unittest.TestCase):
    def test_kept_by_keys(self):
        memory = Memory(3)
        self.assertIsNone(memory.kept(1))
        memory.keep(1, NEAR, "one")
        memory.keep((2, 3), FAR, "two")
        self.assertEqual((memory.kept(1), memory.kept((2, 3)), memory.kept(2)), ("one", "two", None))

    def test_no_more_than_told(self):
        for bound in (0, 1, 2, 5):
            memory = Memory(bound)
            for at in range(9):
                memory.keep(at, NEAR, str(at))
                self.assertLessEqual(len(memory.held), bound)
            self.assertEqual([at for at in range(9) if memory.kept(at)], list(range(9 - bound, 9)))

    def test_what_is_touched_is_forgotten(self):
        memory = Memory(9)
        memory.keep("near", NEAR, 1)
        memory.keep("far", FAR, 2)
        memory.forget([(9, 9, 20, 20), (30, 0, 99, 99)])
        self.assertEqual((memory.kept("near"), memory.kept("far")), (None, 2))
        memory.forget([(10, 0, 20, 99)])
        self.assertEqual(memory.kept("far"), 2)
        memory.forget([(0, 0, 5, 5), (109, 109, 109, 109)])
        self.assertIsNone(memory.kept("far"))

    def test_beside_on_each_side(self):
        box = (10, 20, 19, 29)
        for dx, dz, left in ((10, 0, 1), (-10, 0, 1), (0, 10, 1), (0, -10, 1), (9, 9, None), (-9, 9, None), (9, -9, None),
                             (-9, -9, None), (10, 10, 1), (0, 0, None)):
            memory = Memory(1)
            memory.keep("box", box, 1)
            memory.forget([(box[0] + dx, box[1] + dz, box[2] + dx, box[3] + dz)])
            self.assertEqual(memory.kept("box"), left, (dx, dz))

    def test_which_boxes_deeds_touch(self):
        one, two, three = ((at, ("set", (at, at, at, at), at), None) for at in (1, 2, 3))
        # These read what the first one sets, by way of the one ahead; and what it doesn't.
        four, five, six = ((at, ("copy", (at, at, at, at), by, by), None) for at, by in ((4, -3), (5, -1), (6, -4)))
        for before, behind, told in (
                ((), (), []), ((one,), (one,), []), ((), (one,), [1]), ((one,), (), [1]),
                ((one, two), (one, two, three), [3]), ((one, two), (two, one), [1, 2, 2, 1]),
                ((one, two, three), (one, three), [2]), ((one, two), (one, three), [2, 3]),
                ((one, two, three), (two, three), [1]), ((three,), (one, two, three), [1, 2]),
                ((one, two, three), (one, three, two), [2, 3, 3, 2]), ((one, one), (one,), [1]),
                ((one, one), (one, one, one), [1]), ((one, four, five), (four, five), [1, 4, 5]),
                ((one, four, five), (one, five), [4, 5]), ((five, four), (five, one, four), [1, 4]),
                ((one, six, two), (six, two), [1]), ((two, six, five), (six, five), [2, 6]),
                ((one, five, four), (five, four), [1, 4]), ((five, four, one), (five, one), [4])):
            self.assertEqual([box[0] for box in touched_boxes(before, behind)], told)


class Lands(unittest.TestCase):
    def test_no_more_tiles_than_told(self):
        for bound in (0, 1, 3):
            for land in (Land(HILLS, 3, memory=bound), Land(HILLS, 3, memory=bound).twin()):
                made = []
                heights = land.heights
                land.heights = lambda *told: made.append(told) or heights(*told)
                for i in (0, 1, 2, 3) * 2 + (3, 2, 1, 0):
                    land.tile(0, i, 0)
                self.assertEqual(len(made), 12 - bound)

    def test_nothing_is_made_twice(self):
        land = Land(HILLS, 3)
        made = []
        heights = land.heights
        land.heights = lambda *told: made.append(told) or heights(*told)
        first = land.tile(0, 0, 0), square_at(land, 1, 0, 0, least=9), land.tile(2, 5, 5)
        many = len(made)
        self.assertEqual(many, 5)
        self.assertEqual((land.tile(0, 0, 0), square_at(land, 1, 0, 0, least=9), land.tile(2, 5, 5)), first)
        self.assertEqual(len(made), many)
        # A deed far off leaves what is kept; one that touches it doesn't.
        land.edit(("set", (-9, -9, -1, -1), 3))
        land.tile(0, 0, 0)
        square_at(land, 1, 0, 0, least=9)
        self.assertEqual(len(made), many)
        land.edit(("set", (-9, -9, 0, 0), 3))
        self.assertNotEqual(land.tile(0, 0, 0), first[0])
        square_at(land, 1, 0, 0, least=9)
        self.assertEqual(len(made), many + 1)


if __name__ == "__main__":
    unittest.main()
