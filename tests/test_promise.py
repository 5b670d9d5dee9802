"""Point 4, and 2 as far as lands and caves go: whatever was asked ahead, in any order, by any memory."""

import copy
import unittest

from landweave.caves import Cave, by_blocks, rooms_in, same_room, shows_same
from landweave.errors import Full, LandError, NoBox, NoCount, NoDeed, NoEdit, NoLevel, NoPoint, NoRules, NoSuch
from landweave.land import Land, covered_by, needless, thinned
from landweave.squares import highest, shows_highest, shows_tall, square_at, tall
from tests.helper import Chance, PlainCave, cells_in, plain_height, plain_lots, points_in
from tests.test_land import HILLS, land_of


class Lands(unittest.TestCase):
    def asked(self, chance, land, height):
        """A question by chance, held against the heights of a land made anew."""
        pick = chance.random.choice(("height", "tile", "square", "bounds", "tall", "highest"))
        i, j = chance.random.randint(-2, 1), chance.random.randint(-2, 1)
        box = chance.part((-30, -30, 30, 30))
        box = (box[0], box[1], min(box[2], box[0] + 20), min(box[3], box[1] + 20))
        heights = {point: height(*point) for point in points_in(box)}
        if pick == "height":
            self.assertEqual({point: land.height(*point) for point in heights}, heights)
        elif pick == "tile":
            level = chance.random.randint(0, 2)
            apart = 2 ** level
            self.assertEqual(land.tile(level, i, j), [
                [height((16 * i + p) * apart, (16 * j + q) * apart) for q in range(17)] for p in range(17)])
        elif pick == "square":
            made = [height(16 * i + p, 16 * j + q) for p in range(16) for q in range(16)]
            least = chance.random.choice(made)
            self.assertEqual(square_at(land, 0, i, j, least=least),
                             (min(made), max(made), sum(made), sum(one >= least for one in made)))
        elif pick == "bounds":
            low, high = land.bounds(box)
            self.assertTrue(low <= min(heights.values()) and max(heights.values()) <= high)
        elif pick == "tall":
            least = chance.random.choice(list(heights.values()))
            self.assertEqual(tall(land, box, least=least)[1], [one for one in heights if heights[one] >= least])
        else:
            most = max(heights.values())
            self.assertEqual(highest(land, box)[1:3], (min(p for p in heights if heights[p] == most), most))

    def test_rows_of_deeds_and_questions(self):
        for number in range(8):
            chance = Chance(190 + number)
            rules = chance.many_rules(5, 2)
            land = Land(rules[0], number, memory=chance.random.choice((0, 1, 3, 64)))
            for _ in range(25):
                word = chance.random.choice(("edit", "edit", "edit", "drop", "swap", "back", "again", "thin", "twin"))
                numbers = [number for number, _ in land.edits()]
                if word == "edit":
                    land.edit(chance.edit((-40, -40, 40, 40), rules))
                elif word == "drop" and numbers:
                    land.drop(chance.random.choice(numbers))
                elif word == "swap" and numbers:
                    land.swap(chance.random.choice(numbers), chance.random.choice(numbers))
                elif word in ("back", "again"):
                    try:
                        getattr(land, word)()
                    except NoDeed:
                        pass
                elif word == "twin":
                    land = land.twin()
                elif word == "thin":
                    land = thinned(land)
                edits = [edit for _, edit in land.edits()]
                for _ in range(2):
                    self.asked(chance, land, lambda x, z: plain_height(rules[0], number, edits, x, z))

    def test_in_any_order_the_same_is_told(self):
        edits = Chance(200).edits(10, (-40, -40, 40, 40), [HILLS, ("x",)])
        questions = [lambda land, at=at: land.tile(at % 3, at % 5 - 2, at % 2) for at in range(12)]
        questions += [lambda land, at=at: square_at(land, at % 3, at % 4 - 2, 0, least=at * 90) for at in range(8)]
        questions += [lambda land, at=at: land.height(at, -at) for at in range(20)]
        questions += [lambda land: highest(land, (-20, -20, 20, 20)), lambda land: tall(land, (0, 0, 9, 9), least=300),
                      lambda land: land.bounds((-20, -20, 20, 20)), needless, lambda land: covered_by(land, 1),
                      lambda land: land.edits()]
        first = [ask(land_of(HILLS, 3, edits)) for ask in questions]
        for number in (1, 2, 3):
            land = land_of(HILLS, 3, edits, memory=number)
            order = list(range(len(questions)))
            Chance(number).random.shuffle(order)
            for at in order + order[::-1]:
                self.assertEqual(questions[at](land), first[at])


class HandedIn(unittest.TestCase):
    def test_nothing_is_changed(self):
        land = land_of(HILLS, 3, [("raise", (0, 0, 5, 5), 3)])
        other = land_of(("x",), 3, [("raise", (0, 0, 9, 9), 3), ("set", (0, 0, 9, 9), 3)])
        rows = [("edit", ("set", (0, 0, 1, 1), 2)), ("swap", 1, 2), ("drop", 1)]
        kept = copy.deepcopy(rows), other.edits()
        land.many(rows)
        land.pour(other)
        thinned(other)
        self.assertEqual((rows, other.edits()), kept)
        box = (0, 0, 20, 20)
        told, found = tall(land, box, least=3), highest(land, box)
        before = copy.deepcopy((told, found))
        shows_tall(land, box, told, least=3)
        shows_highest(land, box, found)
        self.assertEqual((told, found), before)

    def test_nothing_of_a_cave_is_changed(self):
        cave, room = Cave(HILLS, 3, cut=700), (0, 0, 0, 5, 5, 5)
        for one in list(cells_in(room))[::17]:
            told = same_room(cave, room, one, (5, 5, 5))
            before = copy.deepcopy(told)
            shows_same(cave, room, one, (5, 5, 5), told)
            self.assertEqual(told, before)

    def test_questions_leave_a_land_as_it_was(self):
        land = land_of(HILLS, 3, [("raise", (0, 0, 5, 5), 3), ("set", (0, 0, 5, 5), 3)])
        land.back()
        twin = land.twin()
        for ask in (lambda: land.tile(0, 0, 0), lambda: land.height(1, 1), lambda: needless(land),
                    lambda: square_at(land, 1, 0, 0), lambda: highest(land, (0, 0, 9, 9)), lambda: thinned(land)):
            ask()
        land.again()
        twin.again()
        self.assertTrue(land == twin)
        self.assertEqual(land.edits(), twin.edits())


class Told(unittest.TestCase):
    def lists_in(self, told):
        """Each list that stands in what is told, once for each place."""
        if isinstance(told, (list, tuple)):
            yield from ([told] if isinstance(told, list) else [])
            for part in told:
                yield from self.lists_in(part)

    def spoil(self, told):
        for found in list(self.lists_in(told)):
            found.append("spoilt")
            found.reverse()

    def test_it_is_the_askers_own(self):
        land = land_of(HILLS, 3, [("raise", (0, 0, 5, 5), 3), ("set", (0, 0, 5, 5), 3), ("copy", (0, 0, 9, 9), 3, 0)])
        cave, room = Cave(("noise", 3, 0), 3), (0, 0, 0, 6, 6, 6)
        box = (0, 0, 40, 40)
        open_cell = rooms_in(cave, room)[0][0]
        for ask in (lambda: land.tile(2, 0, 0), lambda: land.edits(), lambda: needless(land),
                    lambda: tall(land, box, least=700), lambda: highest(land, box), lambda: cave.block(room),
                    lambda: rooms_in(cave, room), lambda: by_blocks(cave, room),
                    lambda: same_room(cave, room, open_cell, open_cell),
                    lambda: same_room(cave, room, open_cell, (6, 6, 6))):
            told = ask()
            kept = copy.deepcopy(told)
            self.assertEqual(len({id(found) for found in self.lists_in(told)}), len(list(self.lists_in(told))))
            self.spoil(told)
            self.assertEqual(ask(), kept)

    def test_nothing_done_later_changes_it(self):
        land = land_of(HILLS, 3, [("raise", (0, 0, 5, 5), 3)])
        tile, edits = land.tile(0, 0, 0), land.edits()
        kept = copy.deepcopy((tile, edits))
        land.edit(("set", (0, 0, 9, 9), 1))
        land.tile(0, 0, 0)
        self.assertEqual((tile, edits), kept)


class Refused(unittest.TestCase):
    def test_a_refused_call_changes_nothing(self):
        land = land_of(HILLS, 3, [("raise", (0, 0, 5, 5), 3), ("set", (0, 0, 5, 5), 3)])
        land.back()
        before, tile = land.edits(), land.tile(0, 0, 0)
        full = land_of(HILLS, 3, [("raise", (0, 0, 5, 5), 3)] * 60)
        for error, ask in (
                (NoEdit, lambda: land.edit(("set",))), (NoBox, lambda: land.edit(("set", (1, 0, 0, 0), 3))),
                (NoRules, lambda: land.edit(("field", (0, 0, 0, 0), ("y",)))), (NoSuch, lambda: land.drop(2)),
                (NoSuch, lambda: land.swap(1, 2)), (Full, lambda: land.pour(full)),
                (NoEdit, lambda: land.many([("edit", ("set", (0, 0, 3, 3), 1)), ("lift", 3)])),
                (NoPoint, lambda: land.height(10 ** 7, 0)), (NoLevel, lambda: land.tile(9, 0, 0)),
                (NoPoint, lambda: land.tile(0, 10 ** 7, 0)), (NoBox, lambda: land.bounds((1, 0, 0, 0))),
                (NoSuch, lambda: covered_by(land, 2))):
            with self.assertRaises(error) as caught:
                ask()
            self.assertIs(type(caught.exception), error)
            self.assertEqual((land.edits(), land.tile(0, 0, 0)), (before, tile))
        land.again()
        self.assertEqual([number for number, _ in land.edits()], [1, 2])
        self.assertEqual(land.edit(("set", (0, 0, 3, 3), 1)), 3)

    def test_a_refused_cave_stays(self):
        cave, room = Cave(HILLS, 3, cut=700), (0, 0, 0, 5, 5, 5)
        cave.dig((0, 0, 0, 2, 2, 2))
        cave.back()
        before = cave.block(room)
        for error, ask in ((NoBox, lambda: cave.dig((1, 0, 0, 0, 0, 0))), (NoBox, lambda: cave.fill((0, 0))),
                           (NoDeed, lambda: cave.back()), (NoBox, lambda: cave.block((0, 0, 0, 12, 12, 12))),
                           (NoCount, lambda: by_blocks(cave, room, side=0)), (NoPoint, lambda: cave.is_rock(0, 64, 0))):
            with self.assertRaises(error) as caught:
                ask()
            self.assertIs(type(caught.exception), error)
            self.assertTrue(issubclass(error, LandError))
            self.assertEqual(cave.block(room), before)
        cave.again()


class Caves(unittest.TestCase):
    def test_rows_of_deeds_and_questions(self):
        for number in range(4):
            chance = Chance(210 + number)
            rules = chance.random.choice((("noise", 3, 1), ("noise", 4, 0)))
            cave, plain = Cave(rules, number, rounds=number % 3), PlainCave(rules, number, rounds=number % 3)
            gone = []
            for _ in range(20):
                word = chance.random.choice(("dig", "fill", "back", "again"))
                x, y, z, a, b, c = (chance.random.randint(0, 5) for _ in range(6))
                room = (min(x, a), min(y, b), min(z, c), max(x, a), max(y, b), max(z, c))
                if word in ("dig", "fill"):
                    getattr(cave, word)(room)
                    plain.deeds.append((word == "fill", room))
                    gone = []
                elif word == "back" and plain.deeds:
                    cave.back()
                    gone.append(plain.deeds.pop())
                elif word == "again" and gone:
                    cave.again()
                    plain.deeds.append(gone.pop())
                self.assertEqual(cave.block((0, 0, 0, 5, 5, 5)), plain.block((0, 0, 0, 5, 5, 5)))
                lots = plain_lots(plain, (0, 1, 0, 4, 4, 4))
                self.assertEqual(rooms_in(cave, (0, 1, 0, 4, 4, 4)), lots)
                self.assertEqual(by_blocks(cave, (0, 1, 0, 4, 4, 4), side=2), lots)


if __name__ == "__main__":
    unittest.main()
