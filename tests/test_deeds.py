"""Point 14: deeds, taken back and done again, edits and twins."""

import unittest

from landweave.errors import Full, NoBox, NoDeed, NoEdit, NoRules, NoSuch
from landweave.land import Land
from tests.helper import Chance, PlainDeeds, plain_height
from tests.test_land import HILLS, land_of

BOX = (0, 0, 4, 4)
ONE, TWO, THREE = ("set", BOX, 1), ("raise", BOX, 2), ("copy", BOX, 3, 3)


def numbers(land):
    return [number for number, _ in land.edits()]


class Single(unittest.TestCase):
    def test_edit_tells_its_number(self):
        land = Land(HILLS, 1)
        self.assertEqual([land.edit(edit) for edit in (ONE, TWO, THREE)], [1, 2, 3])
        self.assertEqual(land.edits(), [(1, ONE), (2, TWO), (3, THREE)])

    def test_numbers_are_never_told_twice(self):
        land = land_of(HILLS, 1, [ONE, TWO])
        land.drop(2)
        self.assertEqual(land.edit(TWO), 3)
        land.back()
        self.assertEqual(land.edit(THREE), 4)
        land.back()
        land.back()
        self.assertEqual(numbers(land), [1, 2])
        self.assertEqual(land.edit(ONE), 5)

    def test_drop(self):
        land = land_of(HILLS, 1, [ONE, TWO, THREE])
        self.assertIsNone(land.drop(2))
        self.assertEqual(land.edits(), [(1, ONE), (3, THREE)])
        for number in (2, 0, 4, -1, 10 ** 29, True):
            with self.assertRaises(NoSuch) as caught:
                land.drop(number)
            self.assertEqual(caught.exception.number, number)
        land.drop(number=1)
        self.assertEqual(numbers(land), [3])

    def test_swap(self):
        land = land_of(HILLS, 1, [ONE, TWO, THREE])
        self.assertIsNone(land.swap(1, 3))
        self.assertEqual(land.edits(), [(3, THREE), (2, TWO), (1, ONE)])
        land.swap(other=2, one=1)
        self.assertEqual(numbers(land), [3, 1, 2])
        for one, other, number in ((9, 1, 9), (1, 9, 9), (8, 9, 8), (9, 8, 9), (9, 9, 9), (0, 1, 0), (3, -1, -1)):
            with self.assertRaises(NoSuch) as caught:
                land.swap(one, other)
            self.assertEqual(caught.exception.number, number)
        self.assertEqual(numbers(land), [3, 1, 2])

    def test_a_swap_with_itself_is_a_deed(self):
        land = land_of(HILLS, 1, [ONE, TWO])
        land.swap(2, 2)
        self.assertEqual(numbers(land), [1, 2])
        land.back()
        self.assertEqual(numbers(land), [1, 2])
        land.back()
        self.assertEqual(numbers(land), [1])


class Pour(unittest.TestCase):
    def test_of_another(self):
        land, other = land_of(HILLS, 1, [ONE, TWO]), land_of(("x",), 9, [THREE, ONE, TWO])
        other.swap(1, 3)
        self.assertIsNone(land.pour(other))
        self.assertEqual(land.edits(), [(1, ONE), (2, TWO), (3, TWO), (4, ONE), (5, THREE)])
        self.assertEqual(numbers(other), [3, 2, 1])
        self.assertEqual(land.edit(ONE), 6)
        land.back()
        land.back()
        self.assertEqual(numbers(land), [1, 2])
        land.again()
        self.assertEqual(numbers(land), [1, 2, 3, 4, 5])

    def test_of_itself(self):
        land = land_of(HILLS, 1, [ONE, TWO])
        land.pour(land=land)
        self.assertEqual(land.edits(), [(1, ONE), (2, TWO), (3, ONE), (4, TWO)])

    def test_of_none_is_a_deed(self):
        land = land_of(HILLS, 1, [ONE])
        land.pour(Land(HILLS, 1))
        self.assertEqual(numbers(land), [1])
        land.back()
        self.assertEqual(numbers(land), [1])
        land.again()
        land.back()
        land.back()
        self.assertEqual(numbers(land), [])
        land.pour(Land(HILLS, 1))
        with self.assertRaises(NoDeed):
            land.again()
        self.assertEqual(land.edit(ONE), 2)

    def test_fields_are_by_the_lands_own_seed(self):
        land = Land(("x",), 5)
        land.pour(land_of(("x",), 6, [("field", BOX, HILLS)]))
        self.assertEqual(land.height(3, 3), Land(HILLS, 5).height(3, 3))

    def test_full(self):
        land = land_of(HILLS, 1, [ONE] * 31)
        with self.assertRaises(Full):
            land.pour(land)
        land.drop(31)
        land.pour(land)
        self.assertEqual(numbers(land), list(range(1, 31)) + list(range(32, 62)))
        with self.assertRaises(Full):
            land.pour(land_of(HILLS, 1, [ONE]))
        land.pour(Land(HILLS, 1))
        self.assertEqual(len(land), 60)


class Many(unittest.TestCase):
    def test_as_one_deed(self):
        land = land_of(HILLS, 1, [ONE, TWO])
        self.assertIsNone(land.many([("edit", THREE), ("swap", 3, 1), ("drop", 2), ("edit", TWO), ("swap", 4, 4)]))
        self.assertEqual(land.edits(), [(3, THREE), (1, ONE), (4, TWO)])
        land.back()
        self.assertEqual(land.edits(), [(1, ONE), (2, TWO)])
        land.again()
        self.assertEqual(land.edits(), [(3, THREE), (1, ONE), (4, TWO)])
        self.assertEqual(land.edit(ONE), 5)

    def test_of_none_is_a_deed(self):
        land = land_of(HILLS, 1, [ONE])
        land.back()
        land.many(rows=[])
        with self.assertRaises(NoDeed):
            land.again()
        land.back()
        with self.assertRaises(NoDeed):
            land.back()
        land.again()
        self.assertEqual(numbers(land), [])

    def refused(self, rows, error, **fields):
        land = land_of(HILLS, 1, [ONE, TWO])
        land.edit(THREE)
        land.back()
        with self.subTest(rows=rows), self.assertRaises(error) as caught:
            land.many(rows)
        self.assertIs(type(caught.exception), error)
        for name, told in fields.items():
            self.assertEqual(getattr(caught.exception, name), told)
        self.assertEqual(land.edits(), [(1, ONE), (2, TWO)])
        land.again()
        self.assertEqual(numbers(land), [1, 2, 3])
        self.assertEqual(land.edit(ONE), 4)

    def test_rows_that_are_none(self):
        for row in (("put", ONE), ("edit",), ("edit", ONE, 3), ("drop",), ("drop", 1, 2), ("swap", 1), ("swap", 1, 2, 3),
                    (), ["edit", ONE], None, 3, "edit", (3, ONE), ("pour", 1), ("back",), (["edit"], ONE), ("many", [])):
            self.refused([row], NoEdit, why="many")
            self.refused([("edit", ONE), ("drop", 2), row], NoEdit, why="many")

    def test_what_is_wrong_within(self):
        self.refused([("edit", ("set", BOX))], NoEdit, why="kind")
        self.refused([("edit", ("set", (1, 0, 0, 0), 1))], NoBox)
        self.refused([("edit", ("set", BOX, 10 ** 9))], NoEdit, why="number")
        self.refused([("edit", ("field", BOX, ("over", ("x",), 0)))], NoRules, path=(2,), why="number")
        self.refused([("drop", 9)], NoSuch, number=9)
        self.refused([("drop", 1), ("drop", 1)], NoSuch, number=1)
        self.refused([("drop", 3), ("edit", ONE)], NoSuch, number=3)
        self.refused([("drop", 2), ("swap", 1, 2)], NoSuch, number=2)
        self.refused([("swap", 8, 9)], NoSuch, number=8)

    def test_the_first_refusal_is_told(self):
        self.refused([("drop", 9), ("nope",)], NoSuch, number=9)
        self.refused([("nope",), ("drop", 9)], NoEdit, why="many")
        self.refused([("edit", ("set", BOX)), ("drop", 9)], NoEdit, why="kind")

    def test_numbers_are_used_as_they_come(self):
        land = Land(HILLS, 1)
        with self.assertRaises(NoSuch):
            land.many([("edit", ONE), ("drop", 2)])
        land.many([("edit", ONE), ("drop", 1), ("edit", TWO)])
        self.assertEqual(land.edits(), [(2, TWO)])

    def test_full_by_what_stands_when_it_is_come_to(self):
        land = land_of(HILLS, 1, [ONE] * 59)
        with self.assertRaises(Full):
            land.many([("edit", TWO), ("edit", TWO), ("drop", 1)])
        self.assertEqual(len(land), 59)
        land.many([("edit", TWO), ("drop", 1), ("edit", THREE), ("drop", 60), ("edit", ONE)])
        self.assertEqual(numbers(land), list(range(2, 60)) + [61, 62])
        with self.assertRaises(NoEdit):
            land.many([("edit", ("set", BOX))])
        with self.assertRaises(Full):
            land.many([("edit", ONE), ("drop", 2)])
        with self.assertRaises(Full):
            land.many([("edit", ONE), ("nope",)])


class BackAndAgain(unittest.TestCase):
    def test_of_nothing(self):
        land = Land(HILLS, 1)
        for asked in (land.back, land.again):
            with self.assertRaises(NoDeed):
                asked()
        land.edit(ONE)
        with self.assertRaises(NoDeed):
            land.again()
        land.back()
        with self.assertRaises(NoDeed):
            land.back()

    def test_in_rows(self):
        land = land_of(HILLS, 1, [ONE, TWO])
        land.drop(1)
        land.swap(2, 2)
        told = [[1, 2], [1], [], [1], [1, 2], [2]]
        self.assertIsNone(land.back())
        self.assertEqual(numbers(land), [2])
        for at in (0, 1, 2):
            land.back()
            self.assertEqual(numbers(land), told[at])
        for at in (3, 4, 5):
            self.assertIsNone(land.again())
            self.assertEqual(numbers(land), told[at])
        land.again()
        with self.assertRaises(NoDeed):
            land.again()

    def test_again_behind_a_new_deed(self):
        for deed in (lambda land: land.edit(ONE), lambda land: land.drop(1), lambda land: land.swap(1, 1),
                     lambda land: land.pour(Land(HILLS, 2)), lambda land: land.many([])):
            land = land_of(HILLS, 1, [ONE, TWO])
            land.back()
            deed(land)
            with self.assertRaises(NoDeed):
                land.again()

    def test_a_refused_deed_is_none(self):
        land = land_of(HILLS, 1, [ONE, TWO])
        land.back()
        for deed, error in ((lambda: land.edit(()), NoEdit), (lambda: land.drop(2), NoSuch),
                            (lambda: land.swap(1, 2), NoSuch), (lambda: land.many([()]), NoEdit)):
            with self.assertRaises(error):
                deed()
        land.again()
        self.assertEqual(numbers(land), [1, 2])


class Chances(unittest.TestCase):
    def deed(self, chance, land, plain, others):
        """One deed by chance, done to both."""
        pick = chance.random
        word = pick.choice("edit edit edit drop swap back back again again pour many".split())
        have = [number for number, _ in plain.rows]
        if word == "edit" and len(have) < 60:
            edit = chance.edit((-9, -9, 9, 9), [HILLS])
            self.assertEqual(land.edit(edit), plain.edit(edit))
        elif word == "drop" and have:
            number = pick.choice(have)
            land.drop(number)
            plain.do(plain.without(number))
        elif word == "swap" and have:
            one, other = pick.choice(have), pick.choice(have)
            land.swap(one, other)
            plain.do(plain.swapped(one, other))
        elif word in ("back", "again"):
            if plain.done if word == "back" else plain.undone:
                getattr(land, word)()
                getattr(plain, word)()
            else:
                with self.assertRaises(NoDeed):
                    getattr(land, word)()
        elif word == "pour":
            other = pick.choice(others + [land])
            edits = [edit for _, edit in (other.edits())]
            if len(edits) + len(have) <= 60:
                land.pour(other)
                plain.do(plain.put(edits), len(edits))
        elif word == "many" and len(have) < 58:
            edit = chance.edit((-9, -9, 9, 9), [HILLS])
            rows, told = plain.put([edit]), [("edit", edit)]
            if have:
                told += [("swap", have[0], plain.next), ("drop", have[0])]
                rows = plain.without(have[0], plain.swapped(have[0], plain.next, rows))
            land.many(told)
            plain.do(rows, 1)

    def test_rows_of_deeds(self):
        for number in range(12):
            chance = Chance(140 + number)
            land, plain = Land(HILLS, 1), PlainDeeds()
            others = [Land(("x",), 2), land_of(("z",), 3, chance.edits(3, (-9, -9, 9, 9), [HILLS]))]
            for _ in range(150):
                self.deed(chance, land, plain, others)
                self.assertEqual(land.edits(), plain.rows)
            edits = [edit for _, edit in plain.rows]
            for x, z in ((0, 0), (5, -4), (-9, 9)):
                self.assertEqual(land.height(x, z), plain_height(HILLS, 1, edits, x, z))


class Twins(unittest.TestCase):
    def test_alike_with_numbers_and_deeds(self):
        land = land_of(HILLS, 1, [ONE, TWO, THREE], memory=3)
        land.drop(2)
        land.back()
        twin = land.twin()
        self.assertIsNot(twin, land)
        self.assertTrue(twin == land)
        self.assertEqual(twin.edits(), land.edits())
        self.assertEqual((twin.rules(), twin.seed()), (HILLS, 1))
        twin.again()
        self.assertEqual(numbers(twin), [1, 3])
        self.assertEqual(numbers(land), [1, 2, 3])
        for _ in range(4):
            twin.back()
        self.assertEqual(numbers(twin), [])
        with self.assertRaises(NoDeed):
            twin.back()
        self.assertEqual(twin.edit(ONE), 4)
        self.assertEqual(land.edit(ONE), 4)

    def test_they_go_their_own_ways(self):
        land = land_of(HILLS, 1, [ONE])
        twin = land.twin()
        tile = land.tile(0, 0, 0)
        twin.edit(("set", (0, 0, 20, 20), 77))
        self.assertEqual(land.tile(0, 0, 0), tile)
        self.assertEqual(twin.tile(0, 0, 0), [[77] * 17] * 17)
        land.back()
        land.edit(TWO)
        twin.back()
        twin.again()
        self.assertEqual(twin.edits(), [(1, ONE), (2, ("set", (0, 0, 20, 20), 77))])
        self.assertEqual(land.edits(), [(2, TWO)])
        with self.assertRaises(NoDeed):
            land.again()

    def test_the_next_number_comes_along(self):
        land = land_of(HILLS, 1, [ONE, TWO])
        land.back()
        land.back()
        twin = land.twin()
        self.assertEqual(twin.edit(ONE), 3)
        self.assertEqual(land.twin().twin().edit(ONE), 3)
        land.again()
        self.assertEqual(numbers(land), [1])

    def test_of_none(self):
        twin = Land(HILLS, 1, memory=0).twin()
        self.assertTrue(twin == Land(HILLS, 1))
        self.assertEqual(twin.tile(0, 0, 0), Land(HILLS, 1).tile(0, 0, 0))


class Edits(unittest.TestCase):
    def test_a_told_list_may_be_changed(self):
        land = land_of(HILLS, 1, [ONE, TWO])
        told = land.edits()
        told.clear()
        self.assertEqual(land.edits(), [(1, ONE), (2, TWO)])
        self.assertIsNot(land.edits(), land.edits())
        self.assertEqual([type(row) for row in land.edits()], [tuple, tuple])

    def test_rows_handed_in_may_be_changed(self):
        land = Land(HILLS, 1)
        rows = [("edit", ONE), ("edit", TWO)]
        land.many(rows)
        rows[0] = ("edit", THREE)
        rows.append(("drop", 1))
        self.assertEqual(land.edits(), [(1, ONE), (2, TWO)])
        land.back()
        land.again()
        self.assertEqual(land.edits(), [(1, ONE), (2, TWO)])

    def test_a_dropped_edit_leaves_the_land_as_if_it_had_never_been(self):
        chance = Chance(150)
        for _ in range(12):
            edits = chance.edits(9, (-20, -20, 20, 20), [HILLS, ("x",)])
            land = land_of(HILLS, 1, edits)
            land.tile(0, 0, 0)
            gone = chance.random.randint(1, 9)
            land.drop(gone)
            never = land_of(HILLS, 1, edits[:gone - 1] + edits[gone:])
            self.assertTrue(land == never)
            self.assertEqual([land.tile(0, i, 0) for i in (-1, 0)], [never.tile(0, i, 0) for i in (-1, 0)])
            self.assertEqual(land.bounds((-9, -9, 30, 30)), never.bounds((-9, -9, 30, 30)))


if __name__ == "__main__":
    unittest.main()
