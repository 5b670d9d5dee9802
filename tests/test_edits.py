"""Point 13: the six words of edits, and what refuses them."""

import unittest

from landweave.errors import Full, NoBox, NoEdit, NoRules
from landweave.land import Land
from tests.helper import Chance, deep_in, plain_height, within_calls
from tests.test_land import HILLS, land_of

END = 10 ** 6
ALL = (-END, -END, END, END)
BOX = (0, 0, 4, 4)
NINE = 999999999


class Words(unittest.TestCase):
    def told(self, edits, heights, rules=("x",)):
        land = land_of(rules, 3, edits)
        for (x, z), height in heights.items():
            self.assertEqual(land.height(x, z), height, (x, z))

    def test_set(self):
        self.told([("set", BOX, 7)], {(0, 0): 7, (4, 4): 7, (5, 4): 5, (4, 5): 4, (-1, 0): -1})
        self.told([("set", BOX, -NINE)], {(1, 1): -NINE})

    def test_raise(self):
        self.told([("raise", BOX, 7)], {(0, 0): 7, (4, 4): 11, (5, 4): 5})
        self.told([("raise", BOX, -7), ("raise", BOX, -7)], {(4, 4): -10, (5, 0): 5})
        self.told([("raise", BOX, NINE)] * 60, {(4, 4): 60 * NINE + 4})

    def test_least(self):
        self.told([("least", BOX, 2)], {(0, 0): 2, (1, 0): 2, (2, 0): 2, (3, 0): 3, (4, 0): 4, (-1, 0): -1})

    def test_most(self):
        self.told([("most", BOX, 2)], {(0, 0): 0, (1, 0): 1, (2, 0): 2, (3, 0): 2, (4, 0): 2, (5, 0): 5})

    def test_field(self):
        self.told([("field", BOX, ("times", ("z",), ("whole", 10)))], {(0, 3): 30, (4, 4): 40, (5, 4): 5})
        land = land_of(("x",), 77, [("field", ALL, HILLS)])
        self.assertEqual(land.height(9, 9), Land(HILLS, 77).height(9, 9))

    def test_copy(self):
        self.told([("copy", BOX, 10, 0)], {(0, 0): 10, (4, 4): 14, (5, 0): 5, (-1, 0): -1})
        self.told([("set", (10, 5, 10, 5), 99), ("copy", BOX, 10, 5)], {(0, 0): 99, (1, 0): 11, (10, 5): 99})
        self.told([("copy", BOX, 10, 5), ("set", (10, 5, 10, 5), 99)], {(0, 0): 10, (10, 5): 99})

    def test_a_copy_reads_what_stood_ahead_of_it(self):
        self.told([("copy", (0, 0, 9, 0), 1, 0)], {(0, 0): 1, (8, 0): 9, (9, 0): 10, (10, 0): 10})
        self.told([("copy", (0, 0, 9, 0), 1, 0)] * 2, {(0, 0): 2, (8, 0): 10, (9, 0): 10, (10, 0): 10})

    def test_one_behind_the_other(self):
        self.told([("raise", BOX, 7), ("most", BOX, 8), ("set", (0, 0, 0, 0), 3), ("raise", BOX, 1)],
                  {(0, 0): 4, (1, 0): 9, (4, 0): 9})
        self.told([("set", BOX, 3), ("least", BOX, 5), ("most", BOX, 4)], {(0, 0): 4})
        self.told([("most", BOX, 4), ("least", BOX, 5)], {(0, 0): 5})

    def test_boxes_of_one_point_and_of_the_whole_land(self):
        self.told([("set", (2, 2, 2, 2), 9)], {(2, 2): 9, (1, 2): 1, (3, 2): 3, (2, 1): 2, (2, 3): 2})
        self.told([("raise", ALL, 9)], {(END, END): END + 9, (-END, -END): 9 - END})
        self.told([("copy", ALL, 1000, -1000)], {(END, END): END + 1000, (0, -END): 1000})

    def test_beyond_the_land(self):
        # What is read beyond the land isn't in the box of the copy ahead, but the rules reach there.
        rules = ("plus", ("x",), ("shift", 1000, 0, ("x",)))
        self.told([("copy", ALL, 1000, 0)] * 3, {(END, 0): 2 * END + 3000, (0, 0): 7000}, rules)
        self.told([("set", (END, 0, END, 0), 5), ("copy", ALL, 1, 0)], {(END - 1, 0): 5, (END, 0): END + 1})
        both = ("field", ALL, ("plus", ("x",), ("z",)))
        self.told([both, ("copy", ALL, -1000, -1000)], {(-END, -END): -END - 1000, (-END + 1000, 1000): -END})

    def test_copies_of_copies(self):
        for dx, dz in ((1, 0), (0, -1), (7, 5), (1000, 1000), (0, 0)):
            land = land_of(HILLS, 6, [("raise", (0, 0, 3, 3), 9)] + [("copy", ALL, dx, dz)] * 59)
            with within_calls(200000):
                for x, z in ((0, 0), (-59, 3), (5, 9)):
                    at = (x + 59 * dx, z + 59 * dz)
                    higher = 9 if 0 <= at[0] <= 3 and 0 <= at[1] <= 3 else 0
                    self.assertEqual(land.height(x, z), plain_height(HILLS, 6, [], *at) + higher)
                land.tile(0, 0, 0)
                land.tile(5, 0, 0)

    def test_sixty_that_meet_a_part(self):
        chance = Chance(131)
        edits = [("copy", chance.part((-30, -30, 30, 30)), chance.random.randint(-9, 9), at % 7 - 3)
                 for at in range(60)]
        land = land_of(HILLS, 6, edits)
        with within_calls(3000000):
            tile = land.tile(0, 0, -1)
            for x in range(17):
                for z in range(17):
                    self.assertEqual(tile[x][z], plain_height(HILLS, 6, edits, x, z - 16))


class Refused(unittest.TestCase):
    def refused(self, edit, error, **fields):
        full = land_of(("x",), 3, [("set", BOX, 1)] * 60)
        empty = Land(("x",), 3)
        for land in (empty, full):
            before = land.edits()
            for asked in (lambda: land.edit(edit), lambda: land.many([("edit", edit)])):
                with self.subTest(edit=edit), self.assertRaises(error) as caught:
                    asked()
                self.assertIs(type(caught.exception), error)
                for name, told in fields.items():
                    self.assertEqual(getattr(caught.exception, name), told, edit)
                self.assertEqual(land.edits(), before)
        self.assertEqual(empty.edit(("set", BOX, 1)), 1)

    def test_kind(self):
        for edit in (None, 3, "set", [], ["set", BOX, 3], (), ("set",), ("set", BOX), ("set", BOX, 3, 4),
                     ("raise", BOX, 3, 4), ("least", BOX), ("most", BOX, 1, 2), ("field", BOX),
                     ("field", BOX, ("x",), 3), ("copy", BOX, 3), ("copy", BOX, 3, 4, 5), ("Set", BOX, 3),
                     ("lower", BOX, 3), (3, BOX, 3), ((), BOX, 3), (["set"], BOX, 3), (None, BOX, 3), ("", BOX, 3)):
            self.refused(edit, NoEdit, why="kind")

    def test_boxes(self):
        for box in ((1, 0, 0, 0), (0, 1, 0, 0), (0, 0, END + 1, 0), (-END - 1, 0, 0, 0), (0, 0, 0, True), (10 ** 29,) * 4):
            for edit in (("set", box, 1), ("raise", box, 1), ("least", box, 1), ("most", box, 1),
                         ("field", box, ("x",)), ("copy", box, 1, 1)):
                self.refused(edit, NoBox)

    def test_numbers(self):
        for word in ("set", "raise", "least", "most"):
            for number in (10 ** 9, -10 ** 9, 10 ** 29, True, False, None, "7", (7,)):
                self.refused((word, BOX, number), NoEdit, why="number")
            for number in (NINE, -NINE, 0):
                land_of(("x",), 3, [(word, BOX, number)])
        for dx, dz in ((1001, 0), (0, 1001), (-1001, 0), (0, -1001), (True, 0), (0, False), (None, 0), (0, "1")):
            self.refused(("copy", BOX, dx, dz), NoEdit, why="number")
        for dx, dz in ((1000, -1000), (-1000, 1000), (0, 0)):
            land_of(("x",), 3, [("copy", BOX, dx, dz)])

    def test_rules(self):
        self.refused(("field", BOX, ("plus", ("x",), ("name", "a"))), NoRules, path=(2,), why="unbound")
        self.refused(("field", BOX, ("plus", ("x",), ("noise", 3, 9))), NoRules, path=(2, 2), why="number")
        self.refused(("field", BOX, 7), NoRules, path=(), why="kind")
        self.refused(("field", BOX, deep_in(("x",), 200, lambda part: ("over", part, 1))), NoRules, why="great")

    def test_two_faults_at_once(self):
        bad = (1, 0, 0, 0)
        self.refused(("sets", bad, True), NoEdit, why="kind")
        self.refused(("set", bad), NoEdit, why="kind")
        self.refused(("set", bad, 10 ** 9), NoBox)
        self.refused(("copy", bad, 1001, 1001), NoBox)
        self.refused(("field", bad, ("nope",)), NoBox)

    def test_full_is_behind_all(self):
        land = land_of(("x",), 3, [("set", BOX, 1)] * 59)
        self.assertEqual(land.edit(("set", BOX, 1)), 60)
        with self.assertRaises(Full):
            land.edit(("set", BOX, 1))
        self.assertEqual(len(land), 60)
        land.drop(7)
        self.assertEqual(land.edit(("copy", BOX, 1, 1)), 61)

    def test_by_its_name(self):
        land = Land(("x",), 3)
        self.assertEqual(land.edit(edit=("set", BOX, 1)), 1)


if __name__ == "__main__":
    unittest.main()
