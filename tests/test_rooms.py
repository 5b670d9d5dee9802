"""Point 17: rooms of open cells, at once and by blocks, ways through them, and the looker."""

import unittest

from landweave.caves import Cave, by_blocks, rooms_in, same_room, shows_same
from landweave.errors import NoBox, NoCount, NoPoint
from tests.helper import Chance, cells_in, plain_lots, plain_way, touching
from tests.test_cave import CAVES, MIXED, NO_ROOMS

TOO_MANY = (0, 0, 0, 11, 11, 12)


def open_in(cave, room):
    return {cell for cell in cells_in(room) if not cave.is_rock(*cell)}


def drawn(*levels):
    """A cave that is rock but for the cells drawn, from (0, 0, 0) on: for each y a text for each z."""
    cave = Cave(("whole", 32768), 0, rounds=0)
    for y, rows in enumerate(levels):
        for z, text in enumerate(rows):
            for x, sign in enumerate(text):
                if sign == ".":
                    cave.dig((x, y, z, x, y, z))
    return cave


class Rooms(unittest.TestCase):
    def some(self):
        chance = Chance(180)
        for rules, rounds in ((CAVES, 0), (CAVES, 2), (MIXED, 1), (("noise", 3, 0), 0), (("noise", 9, 0), 1)):
            x, z, y = chance.random.randint(-50, 50), chance.random.randint(-50, 50), chance.random.randint(0, 55)
            cave = Cave(rules, 4, rounds=rounds)
            cave.dig((x, y, z, x + 1, y + 8, z + 1))
            cave.fill((x, y + 3, z, x + 7, y + 3, z))
            yield cave, (x, y, z, x + 6, y + 4, z + 5)

    def test_lots(self):
        for cave, room in self.some():
            told = rooms_in(cave, room)
            self.assertEqual(told, plain_lots(cave, room))
            self.assertEqual(rooms_in(room=room, cave=cave), told)

    def test_put_together_from_blocks(self):
        for cave, room in self.some():
            told = rooms_in(cave, room)
            self.assertEqual(by_blocks(cave, room), told)
            for side in (1, 2, 3, 4, 5, 12):
                self.assertEqual(by_blocks(cave, room, side=side), told)

    def test_of_a_whole_room(self):
        cave, room = Cave(("noise", 3, 0), 4, rounds=0), (0, 0, 0, 11, 11, 11)
        told = rooms_in(cave, room)
        self.assertEqual(told, plain_lots(cave, room))
        for side in (3, 7, 11):
            self.assertEqual(by_blocks(cave, room, side=side), told)

    def test_windings_over_many_blocks(self):
        snake = ["........", "#######.", "........", ".#######", "........"]
        cave = drawn(snake, ["########"] * 4 + ["#######."], [row[::-1] for row in snake])
        room = (0, 0, 0, 7, 2, 4)
        for side in (1, 2, 3, 5):
            told = by_blocks(cave, room, side=side)
            self.assertEqual(len(told), 1)
            self.assertEqual(told, rooms_in(cave, room))
        cave.fill((7, 1, 4, 7, 1, 4))
        for side in (1, 2, 3, 5):
            self.assertEqual([len(lot) for lot in by_blocks(cave, room, side=side)], [26, 26])

    def test_orders(self):
        cave = drawn([".#.", "###", ".#."], ["###", "###", "..."], [".##", ".##", "#.#"])
        room = (0, 0, 0, 2, 2, 2)
        lots = [[(0, 0, 0)], [(0, 0, 2), (0, 1, 2), (1, 1, 2), (1, 2, 2), (2, 0, 2), (2, 1, 2)],
                [(0, 2, 0), (0, 2, 1)], [(2, 0, 0)]]
        self.assertEqual(rooms_in(cave, room), lots)
        self.assertEqual(by_blocks(cave, room, side=1), lots)
        self.assertEqual(by_blocks(cave, room, side=2), lots)

    def test_only_within_the_room(self):
        cave = drawn([".#.", "..."])
        self.assertEqual(rooms_in(cave, (0, 0, 0, 2, 0, 0)), [[(0, 0, 0)], [(2, 0, 0)]])
        self.assertEqual(by_blocks(cave, (0, 0, 0, 2, 0, 0), side=2), [[(0, 0, 0)], [(2, 0, 0)]])
        self.assertEqual(len(rooms_in(cave, (0, 0, 0, 2, 0, 1))), 1)

    def test_none_and_one(self):
        rock = Cave(("whole", 32768), 0)
        for asked in (rooms_in, by_blocks):
            self.assertEqual(asked(rock, (0, 0, 0, 3, 3, 3)), [])
            self.assertEqual(asked(Cave(("whole", 0), 0), (5, 5, 5, 5, 5, 5)), [[(5, 5, 5)]])

    def test_told_lists_may_be_changed(self):
        cave, room = Cave(CAVES, 4), (0, 0, 0, 6, 6, 6)
        told = rooms_in(cave, room)
        kept = [list(lot) for lot in told]
        told[0].clear()
        told.append(3)
        self.assertEqual(rooms_in(cave, room), kept)
        self.assertEqual(by_blocks(cave, room), kept)

    def test_refused(self):
        cave = Cave(CAVES, 4)
        for room in NO_ROOMS + (TOO_MANY, (0, 0, 0, 1728, 0, 0), None):
            with self.subTest(room=room), self.assertRaises(NoBox):
                rooms_in(cave, room)
            for side in (4, 0, 99):
                with self.subTest(room=room), self.assertRaises(NoBox):
                    by_blocks(cave, room, side=side)
        for side in (0, 13, -1, 10 ** 29, True):
            with self.subTest(side=side), self.assertRaises(NoCount):
                by_blocks(cave, (0, 0, 0, 3, 3, 3), side=side)
        self.assertEqual(rooms_in(cave, (0, 0, 0, 1727, 0, 0)), by_blocks(cave, (0, 0, 0, 1727, 0, 0), side=12))


class Ways(unittest.TestCase):
    def test_by_chance(self):
        chance = Chance(181)
        seen = {"way": 0, "apart": 0, "rock": 0}
        for rules, rounds in ((CAVES, 0), (("noise", 3, 0), 0), (MIXED, 2), (("noise", 9, 0), 1)):
            cave, room = Cave(rules, 4, rounds=rounds), (0, 3, 0, 6, 8, 5)
            cells = open_in(cave, room)
            everything = sorted(cells_in(room))
            for _ in range(60):
                one, other = (chance.random.choice(sorted(cells) if chance.random.random() < 0.8 else everything)
                              for _ in range(2))
                told = same_room(cave, room, one, other)
                self.look(told, cells, one, other)
                seen[told[0]] += 1
                self.assertIs(shows_same(cave, room, one, other, told), True)
        self.assertGreater(min(seen.values()), 10, seen)

    def look(self, told, cells, one, other):
        rock = [cell for cell in (one, other) if cell not in cells]
        if rock:
            self.assertEqual(told, ("rock", rock[0]))
            return
        word, found = told
        many = plain_way(cells, one, other)
        self.assertIs(type(found), list)
        if many is None:
            self.assertEqual(word, "apart")
            self.assertEqual(found, sorted(set(found)))
            self.assertTrue(one in found and other not in found and set(found) <= cells)
            self.assertFalse({near for cell in found for near in touching(cell)} & cells - set(found))
        else:
            self.assertEqual((word, len(found), found[0], found[-1]), ("way", many, one, other))
            self.assertTrue(all(cell in cells for cell in found))
            self.assertTrue(all(b in touching(a) for a, b in zip(found, found[1:])))

    def test_to_itself(self):
        cave = drawn([".#."])
        room = (0, 0, 0, 2, 0, 0)
        self.assertEqual(same_room(cave, room, (0, 0, 0), (0, 0, 0)), ("way", [(0, 0, 0)]))
        self.assertEqual(same_room(cave, room, (1, 0, 0), (1, 0, 0)), ("rock", (1, 0, 0)))
        self.assertEqual(same_room(cave, room, (0, 0, 0), (2, 0, 0)), ("apart", [(0, 0, 0)]))
        self.assertEqual(same_room(cave, room, (0, 0, 0), (1, 0, 0)), ("rock", (1, 0, 0)))
        self.assertEqual(same_room(cave=cave, room=room, one=(2, 0, 0), other=(0, 0, 0)), ("apart", [(2, 0, 0)]))

    def test_refused(self):
        cave = Cave(CAVES, 4)
        room = (0, 3, 0, 6, 8, 5)
        for bad in ((7, 3, 0), (0, 2, 0), (0, 3, 6), (-1, 3, 0), (0, 9, 0), (10 ** 29, 3, 0), (True, 3, 0), (0, 3, True),
                    (0, 3), None):
            for one, other in ((bad, (0, 3, 0)), ((0, 3, 0), bad), (bad, bad)):
                for asked in (lambda: same_room(cave, room, one, other),
                              lambda: shows_same(cave, room, one, other, ("way", [one, other]))):
                    with self.subTest(one=one, other=other), self.assertRaises(NoPoint):
                        asked()
        for bad in NO_ROOMS + (TOO_MANY, None):
            for asked in (lambda: same_room(cave, bad, (0, -9, 0), (0, 0, 0)),
                          lambda: shows_same(cave, bad, (0, -9, 0), (0, 0, 0), ("apart", []))):
                with self.subTest(room=bad), self.assertRaises(NoBox):
                    asked()


class Lookers(unittest.TestCase):
    room = (0, 0, 0, 4, 0, 2)

    def setUp(self):
        self.cave = drawn(["...#.", ".#.#.", "...#."])

    def shows(self, one, other, *told):
        return shows_same(self.cave, self.room, one, other, told)

    def test_ways(self):
        a, b, c, d, e = (0, 0, 0), (1, 0, 0), (2, 0, 0), (2, 0, 1), (2, 0, 2)
        self.assertIs(self.shows(a, e, "way", [a, b, c, d, e]), True)
        self.assertIs(self.shows(a, e, "way", [a, (0, 0, 1), (0, 0, 2), (1, 0, 2), e]), True)
        self.assertIs(self.shows(a, a, "way", [a]), True)
        for bent in ([], [a], [e], [a, e], [a, b, c, d], [b, c, d, e], [e, d, c, b, a], [a, b, (1, 0, 1), d, e],
                     [a, b, c, c, e], [a, b, c, d, e, e], [a, a, b, c, d, e], [a, b, c, (2, 1, 1), e],
                     [a, b, a, b, c, d, e], [a, b, c, (3, 0, 0), e], [a, b, d, c, e],
                     [a, (-1, 0, 0), c, d, e], [a, (10 ** 29, 0, 0), c, d, e]):
            self.assertIs(self.shows(a, e, "way", bent), False, bent)
        for word, told in (("apart", [a]), ("apart", [a, b]), ("rock", a), ("rock", e), ("apart", [])):
            self.assertIs(self.shows(a, e, word, told), False)
            self.assertIs(self.shows(a, a, word, told), False)
        self.assertIs(self.shows(b, c, "way", [d, c]), False)
        self.assertIs(self.shows(b, c, "way", [b, a]), False)
        self.assertIs(self.shows(b, c, "way", [(1, 0, 1), c]), False)
        self.assertIs(self.shows(c, a, "way", [d, c, b]), False)
        self.assertIs(self.shows(a, a, "way", [b]), False)
        self.assertIs(self.shows(a, a, "way", [a, b, a]), False)
        self.assertIs(self.shows(a, a, "way", []), False)

    def test_apart(self):
        one, other = (0, 0, 0), (4, 0, 1)
        ring = [(0, 0, 0), (0, 0, 1), (0, 0, 2), (1, 0, 0), (1, 0, 2), (2, 0, 0), (2, 0, 1), (2, 0, 2)]
        line = [(4, 0, 0), (4, 0, 1), (4, 0, 2)]
        self.assertIs(self.shows(one, other, "apart", ring), True)
        self.assertIs(self.shows(other, one, "apart", line), True)
        for bent in ([], ring[1:], ring[:-1], ring[:3] + ring[4:], ring[::-1], ring + [ring[-1]], ring + line,
                     ring + [(3, 0, 0)], line, ring + [(5, 0, 0)], [(-1, 0, 0)] + ring, ring + [(10 ** 29, 0, 0)]):
            self.assertIs(self.shows(one, other, "apart", bent), False, bent)
        for word, told in (("way", ring), ("way", [one, other]), ("rock", one), ("rock", other), ("way", [])):
            self.assertIs(self.shows(one, other, word, told), False)
        self.assertIs(self.shows(one, (2, 0, 2), "apart", ring), False)
        self.assertIs(self.shows(one, (2, 0, 2), "apart", ring[:-1]), False)
        self.assertIs(self.shows(one, one, "apart", ring), False)

    def test_several_lots(self):
        cave = drawn([".#.#.#."])
        room = (0, 0, 0, 6, 0, 0)
        a, b, c, d = ((x, 0, 0) for x in (0, 2, 4, 6))
        for lot in ([a], [a, b], [a, c], [a, b, c]):
            self.assertIs(shows_same(cave, room, a, d, ("apart", lot)), True)
        for lot in ([b], [b, c], [a, d], [a, b, c, d], [c, a], [a, a]):
            self.assertIs(shows_same(cave, room, a, d, ("apart", lot)), False)

    def test_rock(self):
        rock, other, free = (1, 0, 1), (3, 0, 0), (0, 0, 0)
        self.assertIs(self.shows(rock, free, "rock", rock), True)
        self.assertIs(self.shows(free, rock, "rock", rock), True)
        self.assertIs(self.shows(rock, other, "rock", rock), True)
        self.assertIs(self.shows(other, rock, "rock", other), True)
        self.assertIs(self.shows(rock, rock, "rock", rock), True)
        for bent in (other, free, (9, 9, 9), (10 ** 29, 0, 0)):
            self.assertIs(self.shows(rock, other, "rock", bent), False)
        self.assertIs(self.shows(free, (0, 0, 1), "rock", free), False)
        self.assertIs(self.shows(rock, (0, 0, 2), "way", [rock, (0, 0, 1), (0, 0, 2)]), False)
        self.assertIs(self.shows((0, 0, 2), rock, "way", [(0, 0, 2), (0, 0, 1), rock]), False)
        self.assertIs(self.shows(rock, (4, 0, 0), "apart", [rock, (1, 0, 0), (1, 0, 2)]), False)
        for word, told in (("way", [rock]), ("way", [rock, free]), ("apart", [rock]), ("apart", [])):
            self.assertIs(self.shows(rock, free, word, told), False)
            self.assertIs(self.shows(rock, rock, word, told), False)

    def test_other_words(self):
        a = (0, 0, 0)
        for word in ("Way", "", "ways", "holds"):
            self.assertIs(self.shows(a, a, word, [a]), False)
        self.assertIs(shows_same(cave=self.cave, room=self.room, one=a, other=a, told=("way", [a])), True)


if __name__ == "__main__":
    unittest.main()
