"""The interface: names, arguments and their defaults, as the document lists them."""

import inspect
import unittest

from landweave import (
    brushes, caves, desk, errors, fields, knots, land, sight, squares, texts, things, water, ways)

TOLD = {
    knots: ("knot(seed, salt, i, j)",),
    fields: ("must_rules(rules)", "value_at(rules, seed, x, z)", "steps_of(rules)", "run_steps(some, seed, x, z)",
             "bounds_of(rules, seed, box)"),
    land: ("Land(rules, seed, *, memory=64)", "needless(land)", "thinned(land)", "covered_by(land, number)"),
    land.Land: ("height(self, x, z)", "rules(self)", "seed(self)", "tile(self, level, i, j)", "bounds(self, box)",
                "edit(self, edit)", "drop(self, number)", "swap(self, one, other)", "pour(self, land)",
                "many(self, rows)", "back(self)", "again(self)", "edits(self)", "twin(self)"),
    squares: ("square_at(land, level, i, j, *, least=0)", "tall(land, box, *, least)",
              "shows_tall(land, box, told, *, least)", "highest(land, box)", "shows_highest(land, box, told)"),
    caves: ("Cave(rules, seed, *, cut=32768, rounds=2, need=14)", "rooms_in(cave, room)",
            "by_blocks(cave, room, *, side=4)", "same_room(cave, room, one, other)",
            "shows_same(cave, room, one, other, told)"),
    caves.Cave: ("is_rock(self, x, y, z)", "block(self, room)", "dig(self, room)", "fill(self, room)", "back(self)",
                 "again(self)", "twin(self)"),
    ways: ("route(land, box, one, other, *, weight=1)", "shows_route(land, box, one, other, told, *, weight=1)",
           "price_by_blocks(land, box, one, other, *, weight=1, side=5)", "prices(land, box, one, *, weight=1)"),
    water: ("poured(land, box, spring, level)", "shows_poured(land, box, spring, level, told)",
            "least_level(land, box, spring)"),
    sight: ("sees(land, one, other, *, eye=2)",),
    things: ("things_in(land, box, *, salt, far=3, least=0)",),
    brushes: ("must_brush(brush)", "reach_of(brush)", "painted(land, brush, x, z)"),
    texts: ("show_rules(rules)", "read_rules(text)", "saved(land)", "read_land(text)"),
    desk: ("Desk()",),
    desk.Desk: ("say(self, line)",),
    errors: ("NoRules(path=(), why='')", "NoEdit(why='')", "NoBrush(path=(), why='')", "NoText(row=0, spot=0)",
             "NoSuch(number=0)"),
}


class Interface(unittest.TestCase):
    def test_names_and_arguments(self):
        for place, rows in TOLD.items():
            for told in rows:
                name = told.split("(")[0]
                found = getattr(place, name)
                self.assertEqual(name + str(inspect.signature(found)), told)

    def test_numbers(self):
        self.assertEqual(land.MEMORY, 64)
        self.assertEqual((sight.EYE, things.FAR), (2, 3))
        self.assertEqual((caves.CUT, caves.ROUNDS, caves.NEED), (32768, 2, 14))


if __name__ == "__main__":
    unittest.main()
