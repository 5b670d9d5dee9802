"""Point 22: brushes, what refuses them, how far they reach, and painting."""

import copy
import unittest

from landweave.brushes import must_brush, painted, reach_of
from landweave.errors import Full, NoBrush, NoDeed, NoPoint
from landweave.land import Land
from tests.helper import Chance, plain_height, plain_value, points_in, within_calls
from tests.plain_brushes import marks_of, plain_fault, plain_marks, plain_reach, rows_of
from tests.test_land import HILLS, land_of

END = 10 ** 6
MARK = ("mark", "set", 1, 1, 5)
STAY = ("move", 0, 0)

# A row of each word, with the places of its numbers, their bounds, and of its rows.
ROWS = (
    (("move", 1, 2), ((1, -100, 100), (2, -100, 100)), ()),
    (("mark", "raise", 2, 3, 4), ((2, 1, 50), (3, 1, 50), (4, -999999999, 999999999)), ()),
    (("often", 2, [STAY]), ((1, 0, 20),), (2,)),
    (("if", 5, [STAY], [MARK]), ((1, -999999999, 999999999),), (2, 3)),
)
NO_ROWS = (None, 5, "move", "", (), ("",), [], ["move", 1, 2], {}, ("nope", 1, 2), ("Move", 1, 2), ("moves", 1, 2), (5,),
           (None, 1, 2), (True, 1, 2), (["move"], 1, 2), (("move",), 1, 2), ({}, 1), ("move",), ("move", 1), ("move", 1, 2, 3),
           ("mark", "set", 1, 1), ("mark", "set", 1, 1, 5, 6), ("often", 2), ("often", [STAY]), ("often", 2, [STAY], [STAY]),
           ("if", 5, [STAY]), ("if", 5, [STAY], [STAY], [STAY]), ("set", (0, 0, 1, 1), 5), ("edit", 1, 2))
NO_LISTS = (None, 5, "", "rows", (), (STAY,), {}, True, STAY)
NO_NUMBERS = (True, False, None, "5", "", (5,), [5], [])
NO_WORDS = ("copy", "field", "", "Set", "sets", "mark", None, 5, True, ("set",), ["set"], {})


def put(row, place, thing):
    return row[:place] + (thing,) + row[place + 1:]


class Refusing(unittest.TestCase):
    def refused(self, brush, path, why):
        land = Land(HILLS, 3)
        for ask in (lambda: must_brush(brush), lambda: reach_of(brush), lambda: painted(land, brush, 0, 0),
                    lambda: painted(land, brush, END + 1, 0)):
            with self.subTest(brush=str(brush)[:300]), self.assertRaises(NoBrush) as caught:
                ask()
            self.assertEqual((caught.exception.path, caught.exception.why), (path, why))
            self.assertIs(type(caught.exception.path), tuple)
        with self.assertRaises(NoDeed):
            land.back()

    def taken(self, brush):
        self.assertIsNone(must_brush(brush))


class Kinds(Refusing):
    def test_no_list(self):
        for bad in NO_LISTS:
            self.refused(bad, (), "kind")
        self.refused(("mark", "set", 1, 1, 5), (), "kind")

    def test_no_rows(self):
        for bad in NO_ROWS:
            self.refused([bad], (0,), "kind")
            self.refused([STAY, MARK, bad, MARK], (2,), "kind")
            self.refused([("often", 2, [STAY, bad])], (0, 2, 1), "kind")
            self.refused([("if", 5, [bad], [])], (0, 2, 0), "kind")
            self.refused([("if", 5, [], [STAY, STAY, bad])], (0, 3, 2), "kind")

    def test_no_lists_for_rows(self):
        for bad in NO_LISTS:
            for row, _, places in ROWS:
                for place in places:
                    self.refused([STAY, put(row, place, bad)], (1, place), "kind")

    def test_one_thing_less_or_more(self):
        for row, _, _ in ROWS:
            self.refused([row[:-1]], (0,), "kind")
            self.refused([row + (5,)], (0,), "kind")
            self.refused([row + ([],)], (0,), "kind")
            self.refused([list(row)], (0,), "kind")

    def test_words_of_marks(self):
        for word in ("set", "raise", "least", "most"):
            self.taken([("mark", word, 1, 1, 5)])
        for bad in NO_WORDS:
            self.refused([STAY, ("mark", bad, 1, 1, 5)], (1, 1), "kind")
            self.refused([("often", 0, [("mark", bad, 0, 1, 5)])], (0, 2, 0, 1), "kind")


class Numbers(Refusing):
    def test_bounds(self):
        for row, numbers, _ in ROWS:
            for place, low, high in numbers:
                self.taken([put(row, place, low)])
                self.taken([put(row, place, high)])
                for bad in (low - 1, high + 1, -10 ** 29, 10 ** 29):
                    self.refused([put(row, place, bad)], (0, place), "number")

    def test_what_is_none(self):
        for row, numbers, _ in ROWS:
            for place, _, _ in numbers:
                for bad in NO_NUMBERS:
                    self.refused([STAY, put(row, place, bad)], (1, place), "number")
                    self.refused([("often", 0, [put(row, place, bad)])], (0, 2, 0, place), "number")


class First(Refusing):
    def test_a_row_goes_ahead_of_what_lies_within(self):
        self.refused([("often", 99, [None], 3)], (0,), "kind")
        self.refused([("mark", "copy", 0, 0)], (0,), "kind")

    def test_things_in_order(self):
        self.refused([("move", 101, None)], (0, 1), "number")
        self.refused([("move", 1, None)], (0, 2), "number")
        self.refused([("mark", "copy", 0, 0, None)], (0, 1), "kind")
        self.refused([("mark", "set", 0, 0, None)], (0, 2), "number")
        self.refused([("mark", "set", 1, 51, None)], (0, 3), "number")
        self.refused([("often", -1, None)], (0, 1), "number")
        self.refused([("often", 1, [None])], (0, 2, 0), "kind")
        self.refused([("if", None, None, None)], (0, 1), "number")
        self.refused([("if", 1, None, None)], (0, 2), "kind")
        self.refused([("if", 1, [("move", 0, 101)], None)], (0, 2, 0, 2), "number")
        self.refused([("if", 1, [STAY], None)], (0, 3), "kind")

    def test_rows_in_order_each_wholly(self):
        deep = ("often", 1, [("if", 1, [], [STAY, ("often", 1, [("move", 1, "a")])])])
        self.refused([deep, None], (0, 2, 0, 3, 1, 2, 0, 2), "number")
        self.refused([None, deep], (0,), "kind")
        self.refused([STAY, ("if", 1, [deep], [None])], (1, 2, 0, 2, 0, 3, 1, 2, 0, 2), "number")

    def test_great_comes_last(self):
        great = ("often", 20, [MARK] * 20)
        self.refused([great], (), "great")
        self.refused([great, None], (1,), "kind")
        self.refused([great, ("move", 1, True)], (1, 2), "number")
        self.refused([("often", 20, [great, ("often", 0, None)])], (0, 2, 1, 2), "kind")

    def test_in_deep_rows(self):
        for wrap, place in ((lambda rows: [("often", 1, rows)], 2), (lambda rows: [("if", 1, rows, [])], 2),
                            (lambda rows: [("if", 1, [], rows)], 3)):
            for bad, path, why in ((None, (0,), "kind"), (("move", 1, 101), (0, 2), "number"),
                                   (("mark", "x", 1, 1, 1), (0, 1), "kind")):
                rows = [bad]
                for _ in range(59):
                    rows = wrap(rows)
                self.refused(rows, (0, place) * 59 + path, why)
                rows = [MARK]
                for _ in range(59):
                    rows = wrap(rows)
                self.taken(rows)

    def test_by_chance(self):
        chance = Chance(410)
        seen = {}
        for _ in range(3000):
            brush = bent_brush(chance, 3)
            fault = plain_fault(brush)
            seen[None if fault is None else fault[1]] = seen.get(None if fault is None else fault[1], 0) + 1
            if fault is None:
                self.taken(brush)
            else:
                with self.assertRaises(NoBrush) as caught:
                    must_brush(brush)
                self.assertEqual((caught.exception.path, caught.exception.why), fault)
        self.assertGreater(min(seen.get(why, 0) for why in (None, "kind", "number", "great")), 30, seen)


def some_row(chance, deep):
    pick = chance.random
    word = pick.choice(("move", "mark", "mark", "often", "if") if deep else ("move", "mark"))
    if word == "move":
        return (word, pick.randint(-5, 5), pick.randint(-5, 5))
    if word == "mark":
        return (word, pick.choice(("set", "raise", "least", "most")), pick.randint(1, 6), pick.randint(1, 6),
                pick.randint(-9, 900))
    if word == "often":
        return (word, pick.choice((0, 1, 2, 3)), some_rows(chance, deep - 1))
    return (word, pick.randint(0, 900), some_rows(chance, deep - 1), some_rows(chance, deep - 1))


def some_rows(chance, deep):
    return [some_row(chance, deep) for _ in range(chance.random.choice((0, 1, 1, 2, 3)))]


def bent_brush(chance, deep):
    """A brush by chance, often with a fault or two, or great."""
    brush = some_rows(chance, deep) or [MARK]
    for _ in range(chance.random.choice((0, 0, 1, 2))):
        at = chance.random.randrange(len(brush))
        row = brush[at]
        bad = chance.random.choice(NO_ROWS + NO_NUMBERS + NO_WORDS + (99, 0, -1))
        brush[at] = put(row, chance.random.randrange(1, len(row)), bad) if type(row) is tuple and len(row) > 1 else bad
        if chance.random.random() < 0.5:
            brush = [STAY, ("often", 3, brush)]
    return [("often", 20, brush * 5), MARK] if chance.random.random() < 0.1 else brush


class Great(Refusing):
    def test_60_marks_and_61(self):
        for many, brush in ((60, [MARK] * 60), (60, [("often", 20, [MARK] * 3)]), (60, [("often", 4, [("often", 15, [MARK])])]),
                            (60, [("if", 1, [MARK] * 60, [MARK] * 59)]), (60, [("if", 1, [], [MARK] * 60)]),
                            (60, [("often", 20, [("if", 1, [MARK], [MARK] * 3)])]),
                            (60, [("if", 1, [MARK] * 30, []), ("if", 1, [], [MARK] * 30)])):
            self.assertEqual(marks_of(brush), many)
            self.taken(brush)
            for more in ([MARK, *brush], [*brush, MARK], [*brush, ("often", 1, [MARK])], [*brush, ("if", 1, [MARK], [])]):
                self.refused(more, (), "great")
            self.taken([*brush, ("often", 0, [MARK] * 60)])

    def test_2000_rows_and_2001(self):
        for brush in ([("often", 19, [STAY] * 100), *[STAY] * 99], [("often", 20, [STAY] * 99), *[STAY] * 19],
                      [("often", 1, [STAY] * 300)] * 6 + [STAY] * 194, [("if", 1, [STAY] * 399, [STAY] * 398)] * 5,
                      [("if", 1, [STAY] * 3, [STAY] * 399)] * 5,
                      [("often", 20, [("often", 4, [("often", 4, [STAY] * 5)])])] + [STAY] * 199):
            many = rows_of(brush)
            brush = brush + [STAY] * (2000 - many)
            self.assertEqual(rows_of(brush), 2000)
            self.taken(brush)
            for more in (brush + [STAY], brush + [MARK], brush + [("often", 0, [STAY])], brush + [("if", 1, [], [])]):
                self.refused(more, (), "great")
        self.taken([("often", 0, [("often", 20, [MARK] * 400)])] * 60)
        self.taken([("often", 0, [])] * 400)

    def test_marks_and_rows_each_by_its_own_branch(self):
        # One branch has the more marks, the other the more rows: both count.
        marks, rows = [MARK] * 30, [STAY] * 399
        self.taken([("if", 1, marks, rows)] * 2)
        self.refused([("if", 1, marks, rows)] * 3, (), "great")
        self.refused([("if", 1, [MARK], rows)] * 6, (), "great")
        self.refused([("if", 1, rows, [MARK])] * 6, (), "great")
        self.taken([("if", 1, [MARK], rows)] * 5)

    def test_often_of_none(self):
        self.taken([("often", 0, [("often", 20, [("often", 20, [MARK] * 99)])])])
        self.refused([("often", 1, [("often", 20, [("often", 20, [MARK] * 99)])])], (), "great")

    def test_very_often(self):
        rows = [MARK]
        for _ in range(58):
            rows = [("often", 20, rows)]
        with within_calls(20000):
            self.refused(rows, (), "great")
            self.taken([("often", 0, rows)])
        rows = []
        for _ in range(58):
            rows = [("often", 2, rows)]
        with within_calls(20000):
            self.refused(rows, (), "great")

    def test_none_at_all(self):
        self.taken([])
        self.taken([("often", 20, []), ("if", 0, [], [])])


class Reaches(unittest.TestCase):
    def test_by_hand(self):
        for brush, told in (
                ([], None), ([STAY], None), ([("move", 5, 5)], None), ([("often", 3, [("move", 5, 5)])], None),
                ([("often", 0, [MARK])], None), ([("if", 1, [], [])], None),
                ([MARK], (0, 0, 0, 0)), ([("mark", "raise", 4, 7, 1)], (0, 0, 3, 6)),
                ([("move", -3, 9), MARK], (-3, 9, -3, 9)), ([MARK, ("move", -3, 9)], (0, 0, 0, 0)),
                ([MARK, ("move", -3, 9), ("mark", "set", 2, 2, 5)], (-3, 0, 0, 10)),
                ([("often", 3, [MARK, ("move", 5, -2)])], (0, -4, 10, 0)),
                ([("often", 3, [("move", 5, -2), MARK])], (5, -6, 15, -2)),
                ([("often", 1, [MARK, ("move", 5, -2)])], (0, 0, 0, 0)),
                ([("often", 3, [("move", 5, -2)]), MARK], (15, -6, 15, -6)),
                ([("if", 1, [("move", 5, 0)], [("move", 0, 7)]), MARK], (0, 0, 5, 7)),
                ([("if", 1, [MARK], []), ("move", 1, 1)], (0, 0, 0, 0)),
                ([("if", 1, [], [("move", 9, 9), MARK])], (9, 9, 9, 9)),
                ([("if", 1, [("move", -9, -9), MARK], [("move", 9, 9), MARK])], (-9, -9, 9, 9)),
                ([("often", 3, [("if", 1, [("move", 4, 0)], [("move", 0, -3)]), MARK])], (0, -9, 12, 0)),
                ([("often", 3, [("if", 1, [("move", 4, 0), ("mark", "set", 50, 1, 1)], [("move", -4, 0)])])],
                 (-4, 0, 12 + 49, 0)),
                ([("often", 20, [("move", 100, -100)]), ("mark", "set", 50, 50, 1)], (2000, -2000, 2049, -1951))):
            self.assertEqual(reach_of(brush), told, brush)
            self.assertIs(type(reach_of(brush)), type(told))

    def test_by_chance(self):
        chance = Chance(411)
        seen = 0
        for _ in range(600):
            brush = some_rows(chance, 2)
            if plain_fault(brush) is None:
                told = plain_reach(brush)
                self.assertEqual(reach_of(brush), told, brush)
                seen += told is not None
        self.assertGreater(seen, 300)

    def test_deep_ones(self):
        rows = [MARK]
        for _ in range(59):
            rows = [("often", 1, [("move", 3, -1), *rows])]
        self.assertEqual(reach_of(rows), (177, -59, 177, -59))
        rows = [MARK]
        for _ in range(59):
            rows = [("if", 1, [("move", 3, -1)], [("move", -1, 3)]), ("if", 0, rows, [])]
        self.assertEqual(reach_of(rows), (-59, -59, 177, 177))
        rows = [MARK]
        for _ in range(58):
            rows = [("often", 0, rows)]
        self.assertIsNone(reach_of(rows))


class Painting(unittest.TestCase):
    def look(self, rules, edits, brush, x, z):
        """A brush painted, held against the marks that a plain going by it makes."""
        land = land_of(rules, 7, edits)
        marks = plain_marks(lambda *place: plain_height(rules, 7, edits, *place), brush, x, z)
        kept = copy.deepcopy(brush)
        told = painted(land, brush, x, z)
        self.assertEqual(brush, kept)
        self.assertEqual((type(told), told), (list, [len(edits) + at for at, _ in enumerate(marks, 1)]))
        self.assertEqual(land.edits(), list(enumerate([*edits, *marks], 1)))
        return land, marks

    def test_marks(self):
        land, _ = self.look(("whole", 10), [], [("mark", "raise", 3, 2, 5), ("move", 1, 1), ("mark", "least", 2, 2, 12),
                                                ("mark", "most", 1, 9, 13), ("mark", "set", 1, 1, -4)], 5, -5)
        self.assertEqual(land.edits()[0], (1, ("raise", (5, -5, 7, -4), 5)))
        self.assertEqual(land.edits()[2], (3, ("most", (6, -4, 6, 4), 13)))
        self.assertEqual([land.height(*point) for point in ((5, -5), (6, -4), (7, -4), (6, -3), (7, -3), (8, -5))],
                         [15, -4, 15, 12, 12, 10])

    def test_ifs_by_what_was_made_so_far(self):
        rows = [("often", 5, [("if", 12, [("move", 1, 0), ("mark", "set", 1, 1, 0)], [("mark", "raise", 1, 1, 1)])])]
        land, marks = self.look(("whole", 10), [], rows, 0, 0)
        self.assertEqual([mark[0] for mark in marks], ["raise", "raise", "set", "raise", "raise"])
        self.assertEqual((land.height(0, 0), land.height(1, 0)), (12, 2))
        for word, number, made in (("set", 50, "yes"), ("raise", 50, "yes"), ("least", 50, "yes"), ("most", 50, "no"),
                                   ("set", 49, "no"), ("raise", 40, "yes"), ("raise", 39, "no"), ("least", 49, "no")):
            rows = [("mark", word, 2, 2, number), ("move", 1, 1), ("if", 50, [("mark", "set", 1, 1, 1)], [("mark", "set", 2, 2, 2)])]
            _, marks = self.look(("whole", 10), [], rows, 0, 0)
            self.assertEqual(marks[1][2], {"yes": 1, "no": 2}[made])
            # Beside the mark's box it makes no height.
            rows[1] = ("move", 2, 1)
            _, marks = self.look(("whole", 10), [], rows, 0, 0)
            self.assertEqual(marks[1][2], 2)

    def test_by_chance(self):
        chance = Chance(412)
        rules = chance.many_rules(8, 3) + [HILLS] * 8
        seen = 0
        for _ in range(300):
            brush = some_rows(chance, 3)
            if plain_fault(brush) is None:
                edits = chance.edits(chance.random.randint(0, 4), (-9, -9, 9, 9), rules)
                first = chance.random.choice(rules)
                marks = plain_marks(lambda *place: plain_height(first, 7, edits, *place), brush, 0, 0)
                if len(edits) + len(marks) <= 60:
                    self.look(first, edits, brush, chance.random.randint(-9, 9), chance.random.randint(-9, 9))
                    seen += 1
        self.assertGreater(seen, 200)

    def test_one_deed_back_and_again(self):
        land = land_of(HILLS, 7, [("set", (0, 0, 5, 5), 3)])
        for brush in ([MARK, ("move", 2, 2), MARK, MARK], [MARK], [STAY], []):
            before, number = land.edits(), land.twin().edit(("set", (0, 0, 0, 0), 1))
            told = painted(land, brush, 1, 1)
            marks = [row for row in brush if row[0] == "mark"]
            self.assertEqual(told, list(range(number, number + len(marks))))
            after = land.edits()
            land.back()
            self.assertEqual(land.edits(), before)
            land.again()
            self.assertEqual(land.edits(), after)
            with self.assertRaises(NoDeed):
                land.again()
        land.back()
        land.back()
        self.assertEqual(len(land), 5)
        land.back()
        self.assertEqual(len(land), 4)

    def test_a_deed_of_none_ends_what_was_taken_back(self):
        land = land_of(HILLS, 7, [("set", (0, 0, 5, 5), 3)])
        land.back()
        self.assertEqual(painted(land, [("often", 3, [("move", 9, 9)])], 1, 1), [])
        with self.assertRaises(NoDeed):
            land.again()
        land.back()
        with self.assertRaises(NoDeed):
            land.back()

    def test_numbers_are_never_told_twice(self):
        land = land_of(HILLS, 7, [("set", (0, 0, 5, 5), 3)] * 3)
        land.drop(2)
        self.assertEqual(painted(land, [MARK, MARK], 0, 0), [4, 5])
        land.back()
        self.assertEqual(painted(land, [MARK], 0, 0), [6])
        land.swap(1, 6)
        self.assertEqual(painted(land, [MARK, MARK, MARK], 0, 0), [7, 8, 9])
        self.assertEqual([number for number, _ in land.edits()], [6, 3, 1, 7, 8, 9])

    def test_points_that_are_none(self):
        for brush in ([], [MARK], [("often", 20, [MARK] * 3)]):
            for x, z in ((END + 1, 0), (0, -END - 1), (10 ** 29, 0), (True, 0), (0, False)):
                land = land_of(HILLS, 7, [MARK[1:2] + ((0, 0, 1, 1), 5)] * 60)
                with self.subTest(x=x, z=z), self.assertRaises(NoPoint):
                    painted(land, brush, x, z)
                self.assertEqual(len(land), 60)

    def test_a_reach_that_isnt_all_points(self):
        brush = [("move", -3, 7), ("mark", "set", 5, 4, 1)]
        for x, z, good in ((END - 1, 0, True), (END, 0, False), (3 - END, 0, True), (2 - END, 0, False), (0, END - 10, True),
                           (0, END - 9, False), (0, -END, True), (END - 1, END - 10, True), (END, END - 9, False)):
            land = Land(HILLS, 7)
            if good:
                self.assertEqual(painted(land, brush, x, z), [1])
            else:
                with self.subTest(x=x, z=z), self.assertRaises(NoPoint):
                    painted(land, brush, x, z)
                self.assertEqual(len(land), 0)
        for x, z, good in ((0, 7 - END, True), (0, 6 - END, False), (END - 3, 7 - END, True), (END - 2, 7 - END, False)):
            land, brush = Land(HILLS, 7), [("move", 3, -7), MARK]
            if good:
                self.assertEqual(painted(land, brush, x, z), [1])
            else:
                with self.subTest(x=x, z=z), self.assertRaises(NoPoint):
                    painted(land, brush, x, z)
        # Marks as great as can be, at the farthest places.
        for brush, least, most in (([("mark", "set", 50, 50, 1)], -END, END - 49),
                                   ([("often", 20, [("move", 100, 100)]), ("mark", "set", 50, 50, 1)], -END - 2000, END - 2049),
                                   ([("often", 20, [("move", -100, -100)]), MARK], 2000 - END, END + 2000)):
            for at in (least - 1, least, most, most + 1):
                land = Land(HILLS, 7)
                if least <= at <= most and -END <= at <= END:
                    self.assertEqual(painted(land, brush, at, at), [1])
                else:
                    with self.subTest(at=at), self.assertRaises(NoPoint):
                        painted(land, brush, at, at)
        # The branch that would lead out isn't gone, but might be.
        leads_out = [("if", 5, [MARK], [("move", 9, 0), MARK])]
        for x, good in ((END - 9, True), (END - 8, False)):
            land = Land(("whole", 5), 7)
            if good:
                self.assertEqual(painted(land, leads_out, x, 0), [1])
            else:
                with self.assertRaises(NoPoint):
                    painted(land, leads_out, x, 0)

    def test_moves_beyond_the_land_where_no_mark_is_made(self):
        rules = ("plus", ("x",), ("z",))
        away = [("often", 20, [("move", 100, 100)])]
        self.look(rules, [], [*away, ("often", 20, [("move", -100, -100)]), MARK], END, END)
        self.look(rules, [], [MARK, *away], END, END)
        # An if asks beyond the land, too, behind copies as well.
        home = ("often", 20, [("move", -100, -100)])
        for least in (2 * END + 4000, 2 * END + 4001):
            _, marks = self.look(rules, [], [*away, ("if", least, [home, MARK], [home, MARK, MARK])], END, END)
            self.assertEqual(len(marks), 1 if least == 2 * END + 4000 else 2)
            self.look(rules, [("copy", (END - 9, 0, END, END), 1000, 7)],
                      [*away, ("if", least, [home, MARK], [home, MARK, MARK])], END, END)
        self.assertEqual(plain_value(rules, 7, END, END), 2 * END)
        beyond = Land(("noise", 3, 4), 7)
        self.assertIn(len(painted(beyond, [("move", -100, 0), ("if", 30000, [("move", 100, 0), MARK], [])], -END, 5)), (0, 1))

    def test_full_by_the_marks_that_are_made(self):
        brush = [("if", 10, [MARK], [MARK] * 3)]
        for many, height, good in ((59, 10, True), (60, 10, False), (57, 9, True), (58, 9, False), (59, 9, False)):
            land = land_of(("whole", height), 7, [("raise", (500, 500, 501, 501), 1)] * many)
            if good:
                self.assertEqual(len(painted(land, brush, 0, 0)), 60 - many)
            else:
                with self.subTest(many=many, height=height), self.assertRaises(Full):
                    painted(land, brush, 0, 0)
                self.assertEqual(len(land), many)
        land = land_of(("whole", 10), 7, [("raise", (500, 500, 501, 501), 1)] * 60)
        self.assertEqual(painted(land, [("if", 11, [MARK], [])], 0, 0), [])
        self.assertEqual(len(painted(Land(HILLS, 7), [MARK] * 60, 0, 0)), 60)

    def test_orders_of_refusals(self):
        full = land_of(("whole", 10), 7, [("raise", (500, 500, 501, 501), 1)] * 60)
        for error, brush, x in ((NoBrush, [MARK, None], END + 1), (NoBrush, [MARK] * 61, END + 1), (NoPoint, [MARK], END + 1),
                                (NoPoint, [("move", 1, 0), MARK], END), (Full, [MARK], END)):
            with self.subTest(error=error), self.assertRaises(error) as caught:
                painted(full, brush, x, 0)
            self.assertIs(type(caught.exception), error)

    def test_a_refused_one_changes_nothing(self):
        land = land_of(HILLS, 7, [("set", (0, 0, 5, 5), 3)] * 58)
        land.back()
        before = land.edits()
        for error, brush, x in ((NoBrush, [MARK, ("move", 1)], 0), (NoPoint, [MARK], -END - 1), (Full, [MARK] * 4, 0),
                                (NoPoint, [MARK, ("move", -1, 0), MARK], -END)):
            with self.assertRaises(error):
                painted(land, brush, x, 0)
            self.assertEqual(land.edits(), before)
        land.again()
        self.assertEqual(painted(land, [MARK], 0, 0), [59])

    def test_what_is_handed_in_may_be_changed_behind(self):
        land, rows = Land(HILLS, 7), [MARK, ("move", 1, 1)]
        brush = [("often", 2, rows)]
        told = painted(land, brush, 0, 0)
        before = land.edits()
        rows.append(MARK)
        brush.clear()
        told.append(99)
        self.assertEqual(land.edits(), before)
        land.back()
        land.again()
        self.assertEqual(land.edits(), before)
        self.assertEqual({point: land.height(*point) for point in points_in((0, 0, 2, 2))},
                         {point: 5 if point in ((0, 0), (1, 1)) else plain_value(HILLS, 7, *point)
                          for point in points_in((0, 0, 2, 2))})

    def test_by_names(self):
        land = Land(HILLS, 7)
        self.assertEqual(painted(z=1, x=2, brush=[MARK], land=land), [1])
        self.assertEqual(land.edits(), [(1, ("set", (2, 1, 2, 1), 5))])
        self.assertEqual(reach_of(brush=[MARK]), (0, 0, 0, 0))
        self.assertIsNone(must_brush(brush=[MARK]))


if __name__ == "__main__":
    unittest.main()
