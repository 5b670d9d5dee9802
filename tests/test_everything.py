"""Points 2 to 4 over the whole program: rows of deeds and questions by turns, each answer held against others.

Each answer is that of a land made anew of the same rules, seed and standing edits, of the land read back from
its save, and of its twin.
"""

import copy
import unittest

from landweave.brushes import must_brush, painted, reach_of
from landweave.desk import Desk
from landweave.errors import Full, LandError, NoBox, NoBrush, NoCount, NoDeed, NoLine, NoPoint, NoRules, NoText
from landweave.land import Land, covered_by, needless, thinned
from landweave.sight import sees
from landweave.squares import highest, shows_highest, shows_tall, square_at, tall
from landweave.texts import read_land, read_rules, saved, show_rules
from landweave.things import things_in
from landweave.water import least_level, poured, shows_poured
from landweave.ways import price_by_blocks, prices, route, shows_route
from tests.helper import Chance, plain_height, points_in
from tests.plain_brushes import plain_fault, plain_marks
from tests.test_brushes import MARK, some_rows
from tests.test_land import HILLS, land_of

ROUGH = ("over", ("noise", 4, 1), 5000)
AROUND = (-20, -20, 20, 20)


def fresh_land(land, memory=64):
    """A land made anew of the rules, the seed and the standing edits."""
    return land_of(land.rules(), land.seed(), [edit for _, edit in land.edits()], memory=memory)


def question(chance):
    """A question by chance, as a function of a land; what hangs on numbers isn't asked here."""
    box = chance.part(AROUND)
    box = (box[0], box[1], min(box[2], box[0] + 12), min(box[3], box[1] + 12))
    one, other = ((chance.random.randint(box[0], box[2]), chance.random.randint(box[1], box[3])) for _ in "ab")
    level, i, j = chance.random.randint(0, 2), chance.random.randint(-1, 0), chance.random.randint(-1, 0)
    number, weight = chance.random.randint(-5, 900), chance.random.choice((0, 1, 5))
    return chance.random.choice((
        lambda land: [land.height(*point) for point in points_in(box)], lambda land: land.tile(level, i, j),
        lambda land: square_at(land, level, i, j, least=number), lambda land: land.bounds(box), len, bool,
        lambda land: tall(land, box, least=number), lambda land: highest(land, box), lambda land: thinned(land).height(*one),
        lambda land: route(land, box, one, other, weight=weight), lambda land: prices(land, box, one, weight=weight),
        lambda land: price_by_blocks(land, box, one, other, weight=weight, side=level + 3),
        lambda land: poured(land, box, one, number), lambda land: least_level(land, box, one),
        lambda land: sees(land, one, (other[0] + 40, other[1] - 9), eye=weight * 100),
        lambda land: things_in(land, box, salt=level, far=level + 1, least=number * 30),
        lambda land: [edit for _, edit in land.edits()], lambda land: land.seed(), lambda land: show_rules(land.rules())))


class Whole(unittest.TestCase):
    def deed(self, chance, land, rules):
        """A deed by chance; a painted brush is held against the marks that a plain going by it makes."""
        word = chance.random.choice(("edit", "edit", "edit", "drop", "swap", "back", "again", "paint", "paint", "pour", "many"))
        numbers = [number for number, _ in land.edits()]
        if word == "edit" and len(land) < 55:
            land.edit(chance.edit(AROUND, rules))
        elif word == "drop" and numbers:
            land.drop(chance.random.choice(numbers))
        elif word == "swap" and numbers:
            land.swap(chance.random.choice(numbers), chance.random.choice(numbers))
        elif word in ("back", "again"):
            try:
                getattr(land, word)()
            except NoDeed:
                pass
        elif word == "pour" and len(land) < 10:
            land.pour(land_of(("x",), 1, chance.edits(2, AROUND, rules)))
        elif word == "many" and numbers and len(land) < 55:
            land.many([("drop", numbers[0]), ("edit", chance.edit(AROUND, rules))])
        elif word == "paint":
            self.paint(chance, land)

    def paint(self, chance, land):
        brush, x, z = some_rows(chance, 2), chance.random.randint(-9, 9), chance.random.randint(-9, 9)
        if plain_fault(brush) is not None:
            return
        edits = [edit for _, edit in land.edits()]
        marks = plain_marks(lambda *place: plain_height(land.rules(), land.seed(), edits, *place), brush, x, z)
        if len(edits) + len(marks) > 60:
            with self.assertRaises(Full):
                painted(land, brush, x, z)
        else:
            told = painted(land, brush, x, z)
            self.assertEqual(land.edits()[len(edits):], list(zip(told, marks)))

    def test_rows_of_deeds_and_questions(self):
        for number in range(8):
            chance = Chance(500 + number)
            rules = chance.many_rules(4, 2) + [ROUGH, HILLS]
            land = Land(rules[-1 - number % 2], number, memory=chance.random.choice((0, 1, 3, 64)))
            for _ in range(20):
                self.deed(chance, land, rules)
                fresh, back, twin = fresh_land(land), read_land(saved(land)), land.twin()
                self.assertTrue(land == fresh and land == back and land == twin)
                self.assertEqual(land.edits(), back.edits())
                for _ in range(4):
                    ask = question(chance)
                    told = ask(land)
                    for other in (fresh, back, twin, land):
                        self.assertEqual(ask(other), told)
                for ask in (saved, needless, lambda land: [covered_by(land, number) for number, _ in land.edits()],
                            lambda land: saved(thinned(land))):
                    self.assertEqual(ask(back), ask(land))
                    self.assertEqual(ask(twin), ask(land))

    def test_heights_told_point_by_point(self):
        chance = Chance(520)
        rules = chance.many_rules(4, 2) + [ROUGH]
        land = Land(ROUGH, 5, memory=2)
        for _ in range(25):
            self.deed(chance, land, rules)
            edits = [edit for _, edit in land.edits()]
            tile = land.tile(0, 0, -1)
            for _ in range(12):
                p, q = chance.random.randint(0, 16), chance.random.randint(0, 16)
                self.assertEqual(tile[p][q], plain_height(ROUGH, 5, edits, p, q - 16))

    def test_a_desk_and_a_land(self):
        chance = Chance(530)
        for number in range(4):
            desk, land = Desk(), Land(ROUGH, number)
            desk.say(f"land {number} {show_rules(ROUGH)}")
            for _ in range(30):
                word, box = chance.random.choice(("set", "raise", "copy", "drop", "swap", "back", "again")), chance.part(AROUND)
                numbers = [told for told, _ in land.edits()]
                told = " ".join(map(str, box))
                if word in ("set", "raise", "copy"):
                    things = (chance.random.randint(-9, 9),) * (2 if word == "copy" else 1)
                    self.assertEqual(desk.say(f"edit {word} {told} {' '.join(map(str, things))}"), str(land.edit((word, box, *things))))
                elif word in ("drop", "swap"):
                    if numbers:
                        some = [chance.random.choice(numbers) for _ in range(1 if word == "drop" else 2)]
                        getattr(land, word)(*some)
                        self.assertEqual(desk.say(f"{word} {' '.join(map(str, some))}"), "ok")
                else:
                    try:
                        getattr(land, word)()
                    except NoDeed:
                        with self.assertRaises(NoDeed):
                            desk.say(word)
                    else:
                        self.assertEqual(desk.say(word), "ok")
                self.assertEqual(desk.say("save"), saved(land).replace("\n", "; "))
                self.assertEqual(desk.say("square 0 0 0"), " ".join(map(str, square_at(fresh_land(land), 0, 0, 0))))

    def test_an_edit_dropped_from_the_middle(self):
        chance = Chance(540)
        edits = chance.edits(6, AROUND, [ROUGH, HILLS])
        asked = [question(chance) for _ in range(25)]
        for at in range(6):
            land = land_of(ROUGH, 5, edits)
            for ask in asked:
                ask(land)
            land.drop(at + 1)
            self.assertEqual([ask(land) for ask in asked], [ask(land_of(ROUGH, 5, edits[:at] + edits[at + 1:])) for ask in asked])

    def test_papers_are_shown(self):
        chance = Chance(550)
        for number in range(10):
            land = land_of(ROUGH, number, chance.edits(5, AROUND, [ROUGH, HILLS]))
            for ask in (lambda land: land.tile(0, 0, 0), needless):
                ask(land)
            fresh, box = fresh_land(land), (-4, -4, 9, 8)
            self.assertTrue(shows_tall(fresh, box, tall(land, box, least=9), least=9))
            self.assertTrue(shows_highest(fresh, box, highest(land, box)))
            self.assertTrue(shows_route(fresh, box, (0, 0), (9, 8), route(land, box, (0, 0), (9, 8))))
            self.assertTrue(shows_poured(fresh, box, (2, 2), 8, poured(land, box, (2, 2), 8)))


class Own(unittest.TestCase):
    """Point 2 as far as it goes for things, brushes, texts and desks."""

    def test_told_again_and_the_askers_own(self):
        land = land_of(HILLS, 3, [("raise", (0, 0, 5, 5), 3)])
        for ask in (lambda: things_in(land, (0, 0, 20, 20), salt=5), lambda: reach_of([MARK]), lambda: read_rules("plus(x, z)"),
                    lambda: read_land(saved(land)).edits(), lambda: saved(land), lambda: show_rules(HILLS)):
            told = ask()
            kept = copy.deepcopy(told)
            if isinstance(told, list):
                told.append("spoilt")
            self.assertEqual(ask(), kept)

    def test_lands_that_are_read_share_nothing(self):
        land = land_of(HILLS, 3, [("raise", (0, 0, 5, 5), 3)])
        text = saved(land)
        one, other = read_land(text), read_land(text)
        one.edit(("set", (0, 0, 9, 9), 1))
        self.assertEqual((saved(other), saved(land)), (text, text))

    def test_painted_lists_are_the_askers_own(self):
        land = Land(HILLS, 3)
        told = painted(land, [MARK, MARK], 0, 0)
        told.clear()
        self.assertEqual([number for number, _ in land.edits()], [1, 2])

    def test_brushes_stay(self):
        brush = [MARK, ("often", 2, [("move", 1, 1), ("if", 5, [MARK], [])])]
        kept = copy.deepcopy(brush)
        for ask in (must_brush, reach_of, lambda brush: painted(Land(HILLS, 3), brush, 0, 0)):
            ask(brush)
            self.assertEqual(brush, kept)

    def test_each_refusal_of_just_its_class(self):
        land = land_of(HILLS, 3, [("raise", (0, 0, 5, 5), 3)])
        desk = Desk()
        for error, ask in (
                (NoBox, lambda: things_in(land, (0, 0, 32, 31), salt=5)), (NoCount, lambda: things_in(land, (0, 0, 3, 3), salt=5, far=9)),
                (NoBrush, lambda: must_brush(5)), (NoBrush, lambda: reach_of([5])), (NoBrush, lambda: painted(land, [MARK] * 61, 0, 0)),
                (NoPoint, lambda: painted(land, [], 10 ** 7, 0)), (NoRules, lambda: show_rules(("y",))), (NoText, lambda: read_rules("")),
                (NoText, lambda: read_land("")), (NoLine, lambda: desk.say("edits")), (NoText, lambda: desk.say("land 5 a"))):
            with self.assertRaises(error) as caught:
                ask()
            self.assertIs(type(caught.exception), error)
            self.assertIsInstance(caught.exception, LandError)
            self.assertEqual(land.edits(), [(1, ("raise", (0, 0, 5, 5), 3))])


if __name__ == "__main__":
    unittest.main()
