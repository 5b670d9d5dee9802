"""Point 16: caves, cell by cell and as blocks, dug and filled."""

import unittest

from landweave.caves import CUT, NEED, ROUNDS, Cave
from landweave.errors import NoBox, NoCount, NoDeed, NoPoint, NoRules
from tests.helper import Chance, PlainCave, cells_in

CAVES = ("noise", 5, 2)
MIXED = ("plus", ("over", ("noise", 5, 1), 2), ("over", ("noise", 6, 3), 2))
END = 10 ** 6
NO_ROOMS = ((1, 0, 0, 0, 0, 0), (0, 1, 0, 0, 0, 0), (0, 0, 1, 0, 0, 0), (0, -1, 0, 0, 0, 0), (0, 0, 0, 0, 64, 0),
            (END + 1, 0, 0, END + 1, 0, 0), (0, 0, -END - 1, 0, 0, 0), (0, 0, 0, True, 0, 0), (10 ** 29,) * 6,
            (-END - 1, 0, 0, 0, 0, 0), (0, 0, 0, END + 1, 0, 0), (0, 0, 0, 0, 0, END + 1), (False, 0, 0, 5, 5, 5),
            (0, False, 0, 5, 5, 5), (0, 0, False, 5, 5, 5), (0, 0, 0, 5, True, 5), (0, 0, 0, 5, 5, True))


class Made(unittest.TestCase):
    def test_numbers(self):
        self.assertEqual((CUT, ROUNDS, NEED), (32768, 2, 14))
        room = (0, 5, 0, 5, 8, 5)
        self.assertEqual(Cave(CAVES, 3).block(room), Cave(CAVES, 3, cut=32768, rounds=2, need=14).block(room))
        self.assertEqual(Cave(seed=3, rules=CAVES).block(room), Cave(CAVES, 3).block(room))
        with self.assertRaises(TypeError):
            Cave(CAVES, 3, 32768)

    def test_counts(self):
        for rounds in (-1, 3, 10 ** 20, True):
            with self.subTest(rounds=rounds), self.assertRaises(NoCount):
                Cave(CAVES, 3, rounds=rounds)
        for need in (-1, 29, -10 ** 20, False):
            with self.subTest(need=need), self.assertRaises(NoCount):
                Cave(CAVES, 3, need=need)
        for rounds, need in ((0, 0), (2, 28), (0, 28), (2, 0)):
            Cave(CAVES, 3, rounds=rounds, need=need)

    def test_rules_are_looked_at_first(self):
        with self.assertRaises(NoRules) as caught:
            Cave(("over", ("x",), 0), 3, rounds=9, need=99)
        self.assertEqual((caught.exception.path, caught.exception.why), ((2,), "number"))


class Cells(unittest.TestCase):
    def same(self, rules, seed, room, **more):
        cave, plain = Cave(rules, seed, **more), PlainCave(rules, seed, **more)
        told = cave.block(room)
        self.assertEqual(told, plain.block(room))
        x0, y0, z0 = room[:3]
        for x, y, z in cells_in(room):
            self.assertIs(cave.is_rock(x, y, z), told[y - y0][z - z0][x - x0] == "#")

    def test_rounds(self):
        for rounds in (0, 1, 2):
            for rules in (CAVES, MIXED):
                self.same(rules, 3, (-2, 20, 7, 2, 22, 9), rounds=rounds)

    def test_needs(self):
        room = (0, 5, 0, 3, 6, 3)
        for need in (0, 1, 9, 13, 14, 15, 27, 28):
            for rounds in (0, 1, 2):
                self.same(MIXED, 4, room, rounds=rounds, need=need)
        self.assertEqual(set("".join(sum(Cave(CAVES, 3, need=0).block(room), []))), {"#"})
        self.assertEqual(set("".join(sum(Cave(CAVES, 3, need=28).block(room), []))), {"."})
        always = ("whole", 32768)
        self.assertEqual(set("".join(sum(Cave(always, 3, need=27).block(room), []))), {"#"})
        self.assertEqual(set("".join(sum(Cave(("whole", 32767), 3, need=1).block(room), []))), {"."})

    def test_cuts(self):
        for cut in (0, 65535, 30000, -10 ** 29, 10 ** 29):
            self.same(CAVES, 4, (0, 5, 0, 3, 6, 3), cut=cut)
        self.assertTrue(Cave(("x",), 1, cut=7, rounds=0).is_rock(7, 0, 0))
        self.assertFalse(Cave(("x",), 1, cut=8, rounds=0).is_rock(7, 0, 0))

    def test_the_lowest_and_the_highest_levels(self):
        for seed in (0, 1, 10 ** 9):
            for y in (0, 62):
                self.same(CAVES, seed, (3, y, 3, 6, y + 1, 6))

    def test_the_ends_of_the_land(self):
        for x, z in ((END - 1, END - 1), (-END, END - 1), (-END, -END)):
            self.same(MIXED, 2, (x, 30, z, x + 1, 31, z + 1))

    def test_by_chance(self):
        chance = Chance(170)
        for rules in chance.many_rules(20, 3):
            x, z = chance.random.randint(-99, 99), chance.random.randint(-99, 99)
            y = chance.random.randint(0, 61)
            room = (x, y, z, x + chance.random.randint(0, 2), y + chance.random.randint(0, 2), z + 1)
            self.same(rules, chance.seed(), room, cut=chance.random.choice((0, 100, 32768, -500)),
                      rounds=chance.random.randint(0, 2), need=chance.random.randint(0, 28))

    def test_each_level_has_its_own_seed(self):
        cave = Cave(("noise", 5, 3), 8, rounds=0)
        for y in (0, 1, 63):
            self.assertEqual(cave.block((0, y, 0, 11, y, 11)), PlainCave(("noise", 5, 3), 8 + y, rounds=0).block(
                (0, 0, 0, 11, 0, 11)))

    def test_shape_of_a_block(self):
        block = Cave(("x",), 1, cut=2, rounds=0).block((0, 4, 10, 4, 5, 12))
        self.assertEqual(block, [["..###"] * 3] * 2)
        block = Cave(("z",), 1, cut=11, rounds=0).block((0, 4, 10, 4, 5, 12))
        self.assertEqual(block, [[".....", "#####", "#####"]] * 2)
        self.assertEqual({type(row) for row in block}, {list})

    def test_blocks_made_apart_meet(self):
        cave = Cave(CAVES, 6)
        whole = cave.block((0, 0, 0, 11, 11, 11))
        for side in (1, 3, 4, 6):
            for x in range(0, 12, side):
                part = cave.block((x, 0, 2, x + side - 1, 11, 9))
                self.assertEqual(part, [[text[x:x + side] for text in rows[2:10]] for rows in whole])

    def test_refused(self):
        cave = Cave(CAVES, 3)
        for x, y, z in ((END + 1, 0, 0), (0, -1, 0), (0, 64, 0), (0, 0, -END - 1), (True, 0, 0), (0, True, 0)):
            with self.subTest(x=x, y=y, z=z), self.assertRaises(NoPoint):
                cave.is_rock(x, y, z)
        for room in NO_ROOMS + ((0, 0, 0, 0, 0), [0, 0, 0, 0, 0, 0], None, (0, 0, 0, 1728, 0, 0),
                                (0, 0, 0, 11, 11, 12), (0, 0, 0, 12, 11, 11), (-END, 0, -END, END, 63, END)):
            with self.subTest(room=room), self.assertRaises(NoBox):
                cave.block(room)
        for room in ((0, 0, 0, 1727, 0, 0), (0, 0, 0, 11, 11, 11), (0, 0, -4, 0, 63, 22), (0, 63, 0, 0, 63, 0)):
            block = cave.block(room)
            self.assertEqual((len(block), len(block[0]), len(block[0][0])),
                             tuple(room[at + 3] - room[at] + 1 for at in (1, 2, 0)))
        self.assertEqual(cave.is_rock(z=3, y=2, x=1), cave.is_rock(1, 2, 3))

    def test_a_told_block_may_be_changed(self):
        cave = Cave(CAVES, 3)
        block = cave.block((0, 0, 0, 5, 5, 5))
        kept = [list(rows) for rows in block]
        block[2][3] = "??????"
        block[1].clear()
        self.assertEqual(cave.block((0, 0, 0, 5, 5, 5)), kept)


class Deeds(unittest.TestCase):
    def test_dig_and_fill(self):
        cave, plain = Cave(CAVES, 3), PlainCave(CAVES, 3)
        for word, room in (("dig", (1, 1, 1, 3, 3, 3)), ("fill", (3, 3, 3, 4, 4, 9)), ("dig", (3, 0, 3, 3, 63, 3)),
                           ("fill", (-9, 2, -9, 20, 2, 20)), ("dig", (5, 5, 5, 5, 5, 5))):
            self.assertIsNone(getattr(cave, word)(room))
            plain.deeds.append((word == "fill", room))
            self.assertEqual(cave.block((0, 0, 0, 6, 6, 6)), plain.block((0, 0, 0, 6, 6, 6)))
            for cell in cells_in((2, 2, 2, 5, 5, 5)):
                self.assertIs(cave.is_rock(*cell), plain.is_rock(*cell))

    def test_of_any_size(self):
        cave = Cave(CAVES, 3)
        cave.dig(room=(-END, 0, -END, END, 63, END))
        self.assertEqual(cave.block((0, 0, 0, 2, 0, 0)), [["..."]])
        self.assertIs(cave.is_rock(END, 63, -END), False)
        cave.fill(room=(0, 0, 0, 100, 63, 100))
        self.assertEqual(cave.block((-1, 0, 0, 2, 0, 0)), [[".###"]])

    def test_rooms_apart_in_one_way_alone(self):
        room = (10, 10, 10, 13, 13, 13)
        free = Cave(("whole", 0), 3).block(room)
        for at in (0, 1, 2):
            for low, high in ((0, 9), (14, 63), (3, 5), (20, 30)):
                cave = Cave(("whole", 0), 3)
                cave.fill(tuple(low if place == at else 10 for place in (0, 1, 2)) +
                          tuple(high if place == at else 13 for place in (0, 1, 2)))
                self.assertEqual(cave.block(room), free)
                self.assertIs(cave.is_rock(10, 10, 10), False)

    def test_behind_the_rounds(self):
        cave = Cave(("whole", 0), 3, rounds=2, need=1)
        cave.fill((5, 5, 5, 5, 5, 5))
        self.assertEqual(cave.block((4, 5, 5, 6, 5, 5)), [[".#."]])

    def test_refused(self):
        cave = Cave(CAVES, 3)
        cave.dig((0, 0, 0, 1, 1, 1))
        cave.back()
        for room in NO_ROOMS + ((0, 0, 0), None):
            for deed in (cave.dig, cave.fill):
                with self.subTest(room=room), self.assertRaises(NoBox):
                    deed(room)
        cave.again()

    def test_back_and_again(self):
        cave = Cave(CAVES, 3)
        room, seen = (0, 0, 0, 3, 3, 3), [Cave(CAVES, 3).block((0, 0, 0, 3, 3, 3))]
        for asked in (cave.back, cave.again):
            with self.assertRaises(NoDeed):
                asked()
        for deed, part in ((cave.dig, (0, 0, 0, 2, 2, 2)), (cave.fill, (1, 1, 1, 3, 3, 3)), (cave.dig, (2, 2, 2, 2, 2, 2))):
            deed(part)
            seen.append(cave.block(room))
        for at in (2, 1, 0):
            self.assertIsNone(cave.back())
            self.assertEqual(cave.block(room), seen[at])
        with self.assertRaises(NoDeed):
            cave.back()
        for at in (1, 2):
            self.assertIsNone(cave.again())
            self.assertEqual(cave.block(room), seen[at])
        cave.fill(room)
        with self.assertRaises(NoDeed):
            cave.again()
        self.assertEqual(cave.block(room), [["####"] * 4] * 4)
        cave.back()
        self.assertEqual(cave.block(room), seen[2])

    def test_twins(self):
        cave = Cave(MIXED, 3, cut=30000, rounds=1, need=12)
        room = (0, 0, 0, 3, 3, 3)
        cave.dig((0, 0, 0, 2, 2, 2))
        cave.fill((0, 0, 0, 0, 0, 0))
        cave.back()
        twin = cave.twin()
        self.assertEqual(twin.block(room), cave.block(room))
        self.assertEqual(twin.block((20, 7, 20, 25, 9, 25)), cave.block((20, 7, 20, 25, 9, 25)))
        twin.again()
        self.assertTrue(twin.is_rock(0, 0, 0))
        self.assertFalse(cave.is_rock(0, 0, 0))
        cave.fill(room)
        with self.assertRaises(NoDeed):
            cave.again()
        twin.back()
        twin.back()
        with self.assertRaises(NoDeed):
            twin.back()
        self.assertEqual(twin.block(room), Cave(MIXED, 3, cut=30000, rounds=1, need=12).block(room))
        self.assertEqual(cave.block(room), [["####"] * 4] * 4)


if __name__ == "__main__":
    unittest.main()
