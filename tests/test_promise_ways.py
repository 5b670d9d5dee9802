"""Points 2 to 4 as far as ways, water and sight go: whatever was asked and done ahead."""

import copy
import unittest

from landweave.errors import LandError, NoBox, NoCount, NoDeed, NoPoint
from landweave.land import Land
from landweave.sight import sees
from landweave.water import least_level, poured, shows_poured
from landweave.ways import price_by_blocks, prices, route, shows_route
from tests.helper import Chance, plain_height, points_in
from tests.plain_ground import plain_lake, plain_poured, plain_prices, plain_sight, rows_of
from tests.test_land import HILLS, land_of

ROUGH = ("over", ("noise", 4, 1), 5000)
BOX = (-3, -3, 9, 7)

ASKED = (
    lambda land: route(land, BOX, (0, 0), (9, 7), weight=3),
    lambda land: route(land, BOX, (0, 0), (0, 0)),
    lambda land: prices(land, BOX, (5, 5), weight=2),
    lambda land: price_by_blocks(land, BOX, (0, 0), (9, 7), weight=3),
    lambda land: price_by_blocks(land, BOX, (9, 7), (-3, 0), weight=1, side=4),
    lambda land: poured(land, BOX, (3, 2), 6),
    lambda land: poured(land, BOX, (3, 2), 10 ** 9),
    lambda land: poured(land, BOX, (3, 2), -10 ** 9),
    lambda land: least_level(land, BOX, (3, 2)),
    lambda land: sees(land, (0, 0), (20, 7)),
    lambda land: sees(land, (20, 7), (0, 0), eye=500),
    lambda land: shows_route(land, BOX, (0, 0), (9, 7), route(land, BOX, (0, 0), (9, 7), weight=3), weight=3),
    lambda land: shows_poured(land, BOX, (3, 2), 6, poured(land, BOX, (3, 2), 6)),
)


class Heights:
    """The heights at points, straight by the document and not by any land."""

    def __init__(self, rules, seed, edits):
        self.told = (rules, seed, edits)

    def __call__(self, x, z):
        return plain_height(*self.told, x, z)

    def ground(self, box):
        return {point: self(*point) for point in points_in(box)}


class Promise(unittest.TestCase):
    def asked(self, chance, land, height):
        """A question by chance, held against heights that are told point by point."""
        box = chance.part((-12, -12, 12, 12))
        box = (box[0], box[1], min(box[2], box[0] + 9), min(box[3], box[1] + 9))
        ground = height.ground(box)
        one, other = (chance.random.choice(list(ground)) for _ in "ab")
        weight, side = chance.random.choice((0, 1, 5)), chance.random.randint(1, 20)
        pick = chance.random.choice(("route", "blocks", "prices", "poured", "level", "sees"))
        if pick == "sees":
            self.assertEqual(sees(land, one, other, eye=weight), plain_sight(height, one, other, weight))
        elif pick in ("poured", "level"):
            self.water(land, box, ground, one, chance.random.choice(list(ground.values())))
        else:
            least = plain_prices(ground, one, weight)
            told = route(land, box, one, other, weight=weight)
            self.assertEqual(told[2], least[other])
            self.assertTrue(shows_route(land, box, one, other, told, weight=weight))
            self.assertEqual(price_by_blocks(land, box, one, other, weight=weight, side=side), least[other])
            self.assertEqual(prices(land, box, one, weight=weight), rows_of(box, least))

    def water(self, land, box, ground, spring, level):
        told, true = poured(land, box, spring, level), plain_poured(ground, box, spring, level)
        self.assertTrue(shows_poured(land, box, spring, level, told))
        self.assertEqual((told[0], len(told[1])) if told[0] == "runs" else told, true)
        most = least_level(land, box, spring)
        self.assertNotEqual(plain_poured(ground, box, spring, most)[0], "runs")
        self.assertEqual(plain_poured(ground, box, spring, most + 1)[0], "runs")
        self.assertLess(len(plain_lake(ground, spring, most)), len(plain_lake(ground, spring, most + 1)))

    def test_rows_of_deeds_and_questions(self):
        for number in range(6):
            chance = Chance(340 + number)
            rules = chance.many_rules(4, 2) + [ROUGH]
            land = Land(rules[-1], number, memory=chance.random.choice((0, 1, 3, 64)))
            for _ in range(20):
                word = chance.random.choice(("edit", "edit", "edit", "drop", "swap", "back", "again", "pour", "twin"))
                numbers = [number for number, _ in land.edits()]
                if word == "edit":
                    land.edit(chance.edit((-14, -14, 14, 14), rules))
                elif word == "drop" and numbers:
                    land.drop(chance.random.choice(numbers))
                elif word == "swap" and numbers:
                    land.swap(chance.random.choice(numbers), chance.random.choice(numbers))
                elif word in ("back", "again"):
                    try:
                        getattr(land, word)()
                    except NoDeed:
                        pass
                elif word == "pour" and len(numbers) < 10:
                    land.pour(land)
                elif word == "twin":
                    land = land.twin()
                height = Heights(rules[-1], number, [edit for _, edit in land.edits()])
                self.asked(chance, land, height)
                self.asked(chance, land, height)

    def test_the_same_whatever_went_ahead(self):
        edits = Chance(350).edits(8, (-12, -12, 12, 12), [HILLS, ROUGH])
        for ask in ASKED:
            first = ask(land_of(ROUGH, 3, edits))
            land = land_of(ROUGH, 3, edits)
            for other in ASKED:
                other(land)
            self.assertEqual(ask(land), first)
            self.assertEqual(ask(land), first)
            twin = land.twin()
            twin.edit(("set", (0, 0, 5, 5), 300))
            ask(twin)
            self.assertEqual(ask(land), first)
            twin.back()
            self.assertEqual(ask(twin), first)
            number = land.edit(("raise", (-12, -12, 3, 12), 77))
            ask(land)
            land.edit(("set", (0, 0, 1, 1), 5))
            ask(land)
            land.back()
            land.drop(number)
            self.assertEqual(ask(land), first)
            for memory in (0, 1, 2):
                self.assertEqual(ask(land_of(ROUGH, 3, edits, memory=memory)), first)

    def test_an_edit_dropped_from_the_middle(self):
        edits = Chance(351).edits(7, (-12, -12, 12, 12), [HILLS, ROUGH])
        for at in range(7):
            land = land_of(ROUGH, 3, edits)
            for ask in ASKED:
                ask(land)
            land.drop(at + 1)
            fresh = land_of(ROUGH, 3, edits[:at] + edits[at + 1:])
            self.assertEqual([ask(land) for ask in ASKED], [ask(fresh) for ask in ASKED])


class Told(unittest.TestCase):
    def lists_in(self, told):
        if isinstance(told, (list, tuple)):
            yield from ([told] if isinstance(told, list) else [])
            for part in told:
                yield from self.lists_in(part)

    def test_it_is_the_askers_own(self):
        land = land_of(ROUGH, 3, [("raise", (0, 0, 5, 5), 3)])
        for ask in ASKED:
            told = ask(land)
            kept = copy.deepcopy(told)
            found = list(self.lists_in(told))
            self.assertEqual(len({id(one) for one in found}), len(found))
            for one in found:
                one.append("spoilt")
                one.reverse()
            self.assertEqual(ask(land), kept)

    def test_nothing_done_later_changes_it(self):
        land = land_of(ROUGH, 3, [("raise", (0, 0, 5, 5), 3)])
        told = [ask(land) for ask in ASKED]
        kept = copy.deepcopy(told)
        land.edit(("set", (-9, -9, 9, 9), 1))
        for ask in ASKED:
            ask(land)
        self.assertEqual(told, kept)

    def test_nothing_handed_in_is_changed(self):
        land = land_of(ROUGH, 3, [("raise", (0, 0, 5, 5), 3)])
        twin = land.twin()
        told, water = route(land, BOX, (0, 0), (9, 7)), poured(land, BOX, (3, 2), 6)
        kept = copy.deepcopy((told, water))
        for bent in (told, told[:3] + (told[3][::-1],)):
            shows_route(land, BOX, (0, 0), (9, 7), bent)
        shows_poured(land, BOX, (3, 2), 6, water)
        self.assertEqual((told, water), kept)
        self.assertEqual((land.edits(), land == twin, len(land)), (twin.edits(), True, 1))

    def test_a_list_handed_in_may_be_changed_behind(self):
        land = land_of(ROUGH, 3, [])
        told = route(land, BOX, (0, 0), (9, 7))
        self.assertTrue(shows_route(land, BOX, (0, 0), (9, 7), told))
        told[3].clear()
        told[1].append((9, 9))
        self.assertFalse(shows_route(land, BOX, (0, 0), (9, 7), told))
        self.assertTrue(shows_route(land, BOX, (0, 0), (9, 7), route(land, BOX, (0, 0), (9, 7))))


class Refused(unittest.TestCase):
    def test_a_refused_call_changes_nothing(self):
        land = land_of(ROUGH, 3, [("raise", (0, 0, 5, 5), 3), ("set", (0, 0, 5, 5), 3)])
        land.back()
        before = [ask(land) for ask in ASKED]
        for error, ask in (
                (NoBox, lambda: route(land, (0, 0, 20, 20), (0, 0), (1, 1))),
                (NoPoint, lambda: route(land, BOX, (0, 0), (10, 7))),
                (NoCount, lambda: prices(land, BOX, (0, 0), weight=-1)),
                (NoCount, lambda: price_by_blocks(land, BOX, (0, 0), (1, 1), side=21)),
                (NoPoint, lambda: poured(land, BOX, (10, 0), 3)), (NoBox, lambda: least_level(land, (1, 0, 0, 0), (0, 0))),
                (NoPoint, lambda: sees(land, (0, 0), (201, 0))), (NoCount, lambda: sees(land, (0, 0), (0, 0), eye=-1))):
            with self.assertRaises(error) as caught:
                ask()
            self.assertIs(type(caught.exception), error)
            self.assertTrue(issubclass(error, LandError))
            self.assertEqual([ask(land) for ask in ASKED], before)
        land.again()
        self.assertEqual([number for number, _ in land.edits()], [1, 2])


if __name__ == "__main__":
    unittest.main()
