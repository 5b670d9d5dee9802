"""Point 11: tiles by levels, and squares."""

import unittest

from landweave.errors import NoLevel, NoPoint
from landweave.land import Land
from landweave.squares import square_at
from tests.helper import Chance, plain_height
from tests.test_land import HILLS, land_of

END = 62500


def plain_tile(land, level, i, j):
    apart = 2 ** level
    return [[land.height((16 * i + p) * apart, (16 * j + q) * apart) for q in range(17)] for p in range(17)]


def plain_square(land, level, i, j, least=0):
    size = 16 * 2 ** level
    heights = [land.height(x, z) for x in range(i * size, i * size + size) for z in range(j * size, j * size + size)]
    return (min(heights), max(heights), sum(heights), sum(height >= least for height in heights))


class Tiles(unittest.TestCase):
    def test_of_each_level(self):
        chance = Chance(110)
        rules = chance.many_rules(10, 3)
        for level in range(6):
            for _ in range(4):
                apart = 2 ** level
                i, j = chance.random.randint(-3, 3), chance.random.randint(-3, 3)
                around = tuple(16 * apart * part for part in (i - 1, j - 1, i + 2, j + 2))
                edits = chance.edits(chance.random.randint(0, 12), around, rules)
                land = land_of(rules[0], 9, edits)
                tile = land.tile(level, i, j)
                self.assertEqual(tile, plain_tile(land, level, i, j))
                self.assertEqual(tile[3][5], plain_height(
                    rules[0], 9, edits, (16 * i + 3) * apart, (16 * j + 5) * apart))

    def test_a_list_for_each_x(self):
        tile = Land(("plus", ("times", ("x",), ("whole", 1000)), ("z",)), 0).tile(1, 2, -1)
        self.assertEqual((len(tile), {len(row) for row in tile}), (17, {17}))
        self.assertEqual(tile[3][5], 70000 - 22)
        self.assertEqual((type(tile), {type(row) for row in tile}), (list, {list}))

    def test_at_the_ends_of_the_land(self):
        land = land_of(("plus", HILLS, ("x",)), 3, [("copy", (999990, -10 ** 6, 10 ** 6, 10 ** 6), 30, -7),
                                                    ("raise", (-10 ** 6, 5, 0, 10 ** 6), 7)])
        for level in (0, 1, 2, 5):
            last = END // 2 ** level
            for i, j in ((-last, -last), (last - 1, last - 1), (-last, last - 1), (last - 1, 0)):
                self.assertEqual(land.tile(level, i, j), plain_tile(land, level, i, j))
            for i, j in ((last, 0), (0, last), (-last - 1, 0), (0, -last - 1), (10 ** 29, 0), (0, -10 ** 29)):
                with self.subTest(level=level, i=i, j=j), self.assertRaises(NoPoint):
                    land.tile(level, i, j)

    def test_rows_in_common(self):
        land = land_of(HILLS, 3, [("copy", (3, -9, 40, 20), 5, 7), ("raise", (10, 10, 33, 17), -3)])
        for level in range(6):
            for i, j in ((0, 0), (-1, -1), (2, -2)):
                tile = land.tile(level, i, j)
                self.assertEqual(tile[16], land.tile(level, i + 1, j)[0])
                self.assertEqual([row[16] for row in tile], [row[0] for row in land.tile(level, i, j + 1)])

    def test_every_second_height_of_the_four_below(self):
        land = land_of(HILLS, 3, [("copy", (3, -9, 40, 20), 5, 7), ("raise", (10, 10, 33, 17), -3)])
        for level in range(1, 6):
            tile = land.tile(level, 0, -1)
            for a in (0, 1):
                for b in (0, 1):
                    below = land.tile(level - 1, a, -2 + b)
                    self.assertEqual([row[8 * b:8 * b + 9] for row in tile[8 * a:8 * a + 9]],
                                     [row[::2] for row in below[::2]])

    def test_levels(self):
        land = Land(HILLS, 3)
        for level in (-1, 6, 7, 10 ** 20, -10 ** 20, True):
            with self.subTest(level=level), self.assertRaises(NoLevel):
                land.tile(level, 0, 0)
            with self.subTest(level=level), self.assertRaises(NoLevel):
                land.tile(level, 10 ** 7, 0)
        self.assertEqual(land.tile(level=0, i=1, j=2), land.tile(0, 1, 2))


class Memories(unittest.TestCase):
    edits = (("raise", (0, 0, 9, 9), 50), ("set", (100, 100, 120, 120), 7), ("copy", (20, 0, 40, 30), -20, 0),
             ("field", (-30, -30, 30, 30), ("x",)), ("most", (5, 5, 6, 6), 1))

    def asked(self, land):
        told = []
        for at, edit in enumerate(self.edits):
            told.append([land.tile(level, i, 0) for level in (0, 2) for i in (-1, 0, 1, 2)])
            told.append([square_at(land, 1, i, 0, least=3) for i in (-1, 0, 1)])
            number = land.edit(edit)
            told.append([land.tile(level, i, 0) for level in (2, 0) for i in (2, 1, 0, -1)])
            told.append([square_at(land, level, 0, 0) for level in (0, 1, 2)])
            if at > 2:
                land.swap(number, number - 2)
                told.append([land.tile(0, i, j) for i in (0, 1, 2) for j in (0, 1)])
            if at == 3:
                land.drop(1)
                told.append(land.tile(0, 0, 0))
                land.back()
                told.append(land.tile(0, 0, 0))
                land.again()
                told.append(land.tile(0, 0, 0))
                told.append(square_at(land, 0, 0, 0))
        return told

    def test_no_answer_hangs_on_it(self):
        first = self.asked(Land(HILLS, 8, memory=0))
        for memory in (1, 2, 5, 64, 1000):
            self.assertEqual(self.asked(Land(HILLS, 8, memory=memory)), first)

    def test_tiles_behind_deeds(self):
        chance = Chance(112)
        rules = chance.many_rules(5, 2)
        for memory in (0, 3, 100):
            land = Land(rules[0], 4, memory=memory)
            for _ in range(40):
                self.deed(land, chance, rules)
                level, i, j = (chance.random.randint(low, high) for low, high in ((0, 2), (-2, 1), (-2, 1)))
                self.assertEqual(land.tile(level, i, j), plain_tile(land, level, i, j))
                self.assertEqual(square_at(land, 0, i, j, least=5), plain_square(land, 0, i, j, 5))

    def test_the_same_tiles_behind_each_deed(self):
        for number in range(6):
            chance = Chance(114 + number)
            rules = chance.many_rules(5, 2)
            land = Land(rules[0], 4)
            for _ in range(60):
                self.deed(land, chance, rules)
                never = Land(rules[0], 4, memory=0)
                never.pour(land)
                for i, j in ((-1, -1), (-1, 0), (0, -1), (0, 0), (1, 0), (0, 1), (-2, 1), (62, 0)):
                    self.assertEqual(land.tile(0, i, j), never.tile(0, i, j))
                self.assertEqual(square_at(land, 1, -1, -1), square_at(never, 1, -1, -1))

    def deed(self, land, chance, rules):
        numbers = [number for number, _ in land.edits()]
        pick = chance.random.random()
        if pick < 0.6 or not numbers:
            land.edit(chance.edit((-40, -40, 40, 40), rules))
        elif pick < 0.7:
            land.drop(chance.random.choice(numbers))
        elif pick < 0.85:
            land.swap(chance.random.choice(numbers), chance.random.choice(numbers))
        else:
            land.back()

    def test_a_copy_hands_on_what_changes(self):
        land = land_of(("x",), 4, [("raise", (0, 0, 5, 5), 100), ("copy", (1000, 0, 1020, 20), -1000, 0)])
        before = land.tile(0, 62, 0)
        self.assertEqual(before[8][0], 100)
        land.drop(1)
        self.assertEqual(land.tile(0, 62, 0)[8][0], 0)
        land.back()
        self.assertEqual(land.tile(0, 62, 0), before)

    def test_deeds_at_the_front(self):
        box = (0, 0, 9, 9)
        land = land_of(HILLS, 4, [("set", box, 3), ("set", box, 4), ("raise", (0, 0, 0, 0), 1), ("raise", box, 9)])
        for deed, height in ((lambda: land.swap(1, 2), 12), (lambda: land.swap(2, 1), 13), (lambda: land.drop(2), 12),
                             (lambda: land.back(), 13), (lambda: land.many([("drop", 4), ("drop", 2)]), 3),
                             (lambda: land.back(), 13), (lambda: land.swap(2, 4), 4),
                             (lambda: land.back(), 13), (lambda: land.pour(land), 13)):
            square_at(land, 1, 0, 0)
            land.tile(0, 0, 0)
            deed()
            self.assertEqual(land.height(5, 5), height)
            self.assertEqual(land.tile(0, 0, 0), plain_tile(land, 0, 0, 0))
            self.assertEqual(square_at(land, 1, 0, 0), plain_square(land, 1, 0, 0))

    def test_a_told_tile_may_be_changed(self):
        for memory in (0, 64):
            land = Land(HILLS, 8, memory=memory)
            tile = land.tile(1, 0, 0)
            kept = [list(row) for row in tile]
            tile[3][4] += 1
            tile[5].clear()
            tile.pop()
            again = land.tile(1, 0, 0)
            self.assertEqual(again, kept)
            self.assertEqual(len({id(row) for row in again}), 17)
            self.assertEqual(square_at(land, 0, 0, 0), plain_square(land, 0, 0, 0))


class Squares(unittest.TestCase):
    def test_of_each_level(self):
        chance = Chance(113)
        rules = chance.many_rules(6, 3)
        for level, many in ((0, 8), (1, 4), (2, 2), (3, 1)):
            for _ in range(many):
                i, j = chance.random.randint(-2, 2), chance.random.randint(-2, 2)
                land = land_of(rules[0], 9, chance.edits(6, (-99, -99, 99, 99), rules))
                self.assertEqual(square_at(land, level, i, j), plain_square(land, level, i, j))

    def test_least_heights(self):
        land = Land(HILLS, 2)
        low, high, total, _ = square_at(land, 1, 0, 0)
        for least in (low - 1, low, low + 1, (low + high) // 2, high, high + 1, -10 ** 29, 10 ** 29):
            self.assertEqual(square_at(land, 1, 0, 0, least=least), plain_square(land, 1, 0, 0, least))
        self.assertEqual(square_at(land, 1, 0, 0, least=low), (low, high, total, 1024))
        self.assertEqual(square_at(land, 1, 0, 0, least=high + 1), (low, high, total, 0))
        below = Land(("less", ("whole", 0), HILLS), 2)
        self.assertEqual(square_at(below, 0, 0, 0)[3], plain_square(below, 0, 0, 0)[3])

    def test_the_last_row_is_another_ones(self):
        land = land_of(("whole", 3), 2, [("set", (16, 0, 16, 40), 900), ("set", (0, 16, 40, 16), -900)])
        self.assertEqual(square_at(land, 0, 0, 0), (3, 3, 768, 256))
        self.assertEqual(square_at(land, 0, 1, 0)[1], 900)
        self.assertEqual(square_at(land, 0, 0, 1)[0], -900)

    def test_of_the_four_below(self):
        land = land_of(HILLS, 3, [("copy", (3, -9, 40, 20), 5, 7), ("raise", (10, 10, 33, 17), -3)])
        for level in (1, 2, 3):
            four = [square_at(land, level - 1, 2 * -1 + a, b, least=200) for a in (0, 1) for b in (0, 1)]
            lows, highs, totals, counts = zip(*four)
            self.assertEqual(square_at(land, level, -1, 0, least=200),
                             (min(lows), max(highs), sum(totals), sum(counts)))

    def test_refused(self):
        land = Land(HILLS, 3)
        for level in (-1, 4, 5, 10 ** 20, True):
            with self.subTest(level=level), self.assertRaises(NoLevel):
                square_at(land, level, 0, 0)
            with self.subTest(level=level), self.assertRaises(NoLevel):
                square_at(land, level, 10 ** 9, 0)
        for level in range(4):
            last = END // 2 ** level
            for i, j in ((last, 0), (0, last), (-last - 1, 0), (0, -last - 1), (10 ** 29, 0)):
                with self.subTest(level=level, i=i), self.assertRaises(NoPoint):
                    square_at(land, level, i, j)
            self.assertEqual(len(square_at(land, level, last - 1, -last)), 4)
        self.assertEqual(square_at(land=land, level=0, i=1, j=2), square_at(land, 0, 1, 2, least=0))


if __name__ == "__main__":
    unittest.main()
