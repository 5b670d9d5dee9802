"""Point 25: lines said at a desk, their answers and refusals."""

import unittest

from landweave.desk import Desk
from landweave.errors import Full, NoBox, NoCount, NoDeed, NoEdit, NoLevel, NoLine, NoPoint, NoSuch, NoText
from landweave.land import needless
from landweave.sight import sees
from landweave.squares import highest, square_at, tall
from landweave.texts import read_land, read_rules, saved, show_rules
from landweave.water import poured
from landweave.ways import route
from tests.helper import Chance
from tests.test_land import land_of

RULES = "over(noise(7, 3), 1000)"
FIELD = ("over", ("noise", 7, 3), 1000)
START = (f"land 12 {RULES}", "edit set 0 0 5 5 40", "edit copy 3 3 9 9 -1 2", "edit field 8 0 9 9 plus(x, z)")


def desk_of(*lines):
    desk = Desk()
    for line in lines:
        desk.say(line)
    return desk


class Lines(unittest.TestCase):
    def test_lands_and_edits(self):
        desk = Desk()
        told = [desk.say(line) for line in START + ("edits", "save")]
        self.assertEqual(told, ["ok", "1", "2", "3", "1 set, 2 copy, 3 field",
                                f"land 12; rules {RULES}; edit 1 set 0 0 5 5 40; edit 2 copy 3 3 9 9 -1 2; "
                                "edit 3 field 8 0 9 9 plus(x, z)"])

    def test_each_line(self):
        desk, land = desk_of(*START), land_of(FIELD, 12, [
            ("set", (0, 0, 5, 5), 40), ("copy", (3, 3, 9, 9), -1, 2), ("field", (8, 0, 9, 9), ("plus", ("x",), ("z",)))])
        box = (-5, -5, 12, 12)
        low, high = land.bounds(box)
        points = tall(land, box, least=44)[1]
        (x, z), most = highest(land, box)[1:3]
        for line, told in (
                ("height 0 0", "40"), ("height 1000000 -1000000", str(land.height(10 ** 6, -10 ** 6))),
                ("bounds -5 -5 12 12", f"{low} {high}"), ("bounds 1 1 1 1", "40 40"),
                ("square 0 0 0", " ".join(map(str, square_at(land, 0, 0, 0)))),
                ("square 3 -1 2", " ".join(map(str, square_at(land, 3, -1, 2)))),
                ("tall -5 -5 12 12 44", ", ".join(f"{x} {z}" for x, z in points)), ("tall -5 -5 12 12 70", "none"),
                ("tall 0 0 0 1 40", "0 0, 0 1"), ("tall 0 0 0 1 41", "none"), ("highest -5 -5 12 12", f"{x} {z} {most}"),
                ("highest 0 0 1 1", "0 0 40"), ("route -5 -5 12 12 -5 -5 12 12", str(route(land, box, (-5, -5), (12, 12))[2])),
                ("route 0 0 1 1 0 0 1 1", "2"), ("route 0 0 1 1 0 1 0 1", "0"), ("pour 0 0 2 2 1 1 40", "dry"),
                ("pour 0 0 2 2 1 1 41", "runs"), ("sees 0 0 5 0", "sees"), ("sees 0 0 0 0", "sees"), ("needless", "none"),
                ("edits", "1 set, 2 copy, 3 field")):
            self.assertEqual(desk.say(line), told, line)
            self.assertEqual(desk.say(line=line), told, line)
        self.assertGreater(len(points), 1)

    def test_water_that_is_held(self):
        desk = desk_of("land 1 5", "edit set 2 2 3 4 0")
        self.assertEqual([desk.say(f"pour 0 0 6 6 2 3 {level}") for level in (-3, 0, 1, 5, 6)],
                         ["dry", "dry", "holds 6", "holds 6", "runs"])

    def test_sights(self):
        desk = desk_of("land 1 5", "edit set 4 -2 4 -2 8")
        self.assertEqual([desk.say(line) for line in ("sees 0 0 8 -4", "sees 0 0 8 -3", "sees 0 0 8 0")],
                         ["hidden 4 -2", "hidden 4 -2", "sees"])

    def test_deeds(self):
        desk = desk_of(*START)
        for line, told, edits in (
                ("drop 2", "ok", "1 set, 3 field"), ("swap 1 3", "ok", "3 field, 1 set"), ("back", "ok", "1 set, 3 field"),
                ("back", "ok", "1 set, 2 copy, 3 field"), ("again", "ok", "1 set, 3 field"), ("again", "ok", "3 field, 1 set"),
                ("swap 3 3", "ok", "3 field, 1 set"), ("edit raise 0 0 1 1 -5", "4", "3 field, 1 set, 4 raise"),
                ("back", "ok", "3 field, 1 set"), ("edit least 0 0 1 1 -5", "5", "3 field, 1 set, 5 least"),
                ("edit most 0 0 1 1 -5", "6", "3 field, 1 set, 5 least, 6 most")):
            self.assertEqual((desk.say(line), desk.say("edits")), (told, edits), line)
        for number in (3, 1, 5, 6):
            desk.say(f"drop {number}")
        self.assertEqual((desk.say("edits"), desk.say("save")), ("none", f"land 12; rules {RULES}"))

    def test_needless_ones(self):
        desk = desk_of("land 1 x", "edit raise 0 0 5 5 1", "edit raise 1 1 2 2 1")
        self.assertEqual(desk.say("needless"), "none")
        desk.say("edit set 0 0 3 3 5")
        self.assertEqual(desk.say("needless"), "2")
        desk.say("edit field 0 0 9 9 z")
        self.assertEqual(desk.say("needless"), "1 2 3")

    def test_by_chance_against_the_functions(self):
        chance = Chance(440)
        rules = [found for found in chance.many_rules(12, 3) if read_back(found)]
        for first in rules[:6]:
            desk, edits = desk_of(f"land 77 {show_rules(first)}"), chance.edits(8, (-9, -9, 9, 9), rules)
            land = land_of(first, 77, edits)
            for number, (word, box, *things) in enumerate(edits, 1):
                last = show_rules(things[0]) if word == "field" else " ".join(map(str, things))
                self.assertEqual(desk.say(f"edit {word} {' '.join(map(str, box))} {last}"), str(number))
            for _ in range(5):
                box = chance.part((-12, -12, 12, 12))
                box = (box[0], box[1], min(box[2], box[0] + 15), min(box[3], box[1] + 15))
                (x, z), (a, b) = box[:2], box[2:]
                told = " ".join(map(str, box))
                water, sight = poured(land, box, (x, z), 500), sees(land, (x, z), (a, b))
                for line, answer in (
                        (f"bounds {told}", "{} {}".format(*land.bounds(box))), (f"height {a} {z}", str(land.height(a, z))),
                        (f"route {told} {x} {z} {a} {b}", str(route(land, box, (x, z), (a, b))[2])),
                        (f"pour {told} {x} {z} 500", f"holds {len(water[1])}" if water[0] == "holds" else water[0]),
                        (f"sees {x} {z} {a} {b}", "hidden {} {}".format(*sight[1]) if sight[0] == "hidden" else "sees"),
                        ("save", saved(land).replace("\n", "; ")), ("needless", " ".join(map(str, needless(land))) or "none")):
                    self.assertEqual(desk.say(line), answer)
            self.assertTrue(read_land(desk.say("save").replace("; ", "\n")) == land)

    def test_great_heights_are_answered(self):
        desk = desk_of("land 1 times(times(x, x), times(x, z))")
        self.assertEqual(desk.say("height 1000000 1000000"), "1" + "0" * 24)
        self.assertEqual(desk.say("height -1000000 1000000"), "-1" + "0" * 24)


def read_back(rules):
    try:
        return read_rules(show_rules(rules)) == rules
    except NoText:
        return False


class Desks(unittest.TestCase):
    def test_a_new_land_in_the_place_of_the_old_one(self):
        desk = desk_of(*START)
        desk.say("drop 1")
        desk.say("back")
        self.assertEqual(desk.say("land 5 z"), "ok")
        self.assertEqual((desk.say("save"), desk.say("edits"), desk.say("height 3 4")), ("land 5; rules z", "none", "4"))
        for line in ("back", "again"):
            with self.assertRaises(NoDeed):
                desk.say(line)
        self.assertEqual(desk.say("edit set 0 0 0 0 1"), "1")
        self.assertEqual(desk.say("back"), "ok")
        with self.assertRaises(NoDeed):
            desk.say("back")

    def test_two_desks(self):
        one, other = desk_of(*START), desk_of("land 3 x")
        kept = one.say("save")
        self.assertEqual(other.say("edit set 0 0 0 0 7"), "1")
        other.say("back")
        self.assertEqual(one.say("save"), kept)
        one.say("drop 3")
        self.assertEqual(other.say("save"), "land 3; rules x")
        with self.assertRaises(NoLine):
            Desk().say("edits")

    def test_ahead_of_the_first_land(self):
        desk = Desk()
        for line in ("edit set 0 0 5 5 40", "drop 1", "swap 1 2", "back", "again", "edits", "height 0 0", "bounds 0 0 1 1", "square 0 0 0",
                     "tall 0 0 1 1 5", "highest 0 0 1 1", "route 0 0 1 1 0 0 1 1", "pour 0 0 1 1 0 0 5", "sees 0 0 1 1", "needless", "save",
                     "edit field 0 0 5 5 over(", "edit field 0 0 5 5 x", "", "nope"):
            with self.subTest(line=line), self.assertRaises(NoLine):
                desk.say(line)
        for line, spot in (("land 5 over(", 6), ("land 5 a", 0), ("land 5 x)", 2)):
            with self.subTest(line=line), self.assertRaises(NoText) as caught:
                desk.say(line)
            self.assertEqual((caught.exception.row, caught.exception.spot), (1, spot))
        with self.assertRaises(NoLine):
            desk.say("edits")
        self.assertEqual(desk.say("land 5 x"), "ok")
        self.assertEqual(desk.say("edits"), "none")

    def test_save_against_saved(self):
        desk = desk_of(*START)
        land = read_land(desk.say("save").replace("; ", "\n"))
        self.assertEqual(desk.say("save"), saved(land).replace("\n", "; "))

    def test_lines_of_2000_signs(self):
        desk = Desk()
        texts = ["noise(1000000000, 8)"] * 69
        while len(texts) > 1:
            texts = [f"least({texts[0]}, {texts[1]})"] + texts[2:] if len(texts) % 2 else [
                f"least({one}, {other})" for one, other in zip(texts[::2], texts[1::2])]
        line = f"land 55 {texts[0]}"
        self.assertEqual(len(line), 2000)
        self.assertEqual(desk.say(line), "ok")
        self.assertEqual(desk.say("save"), f"land 55; rules {texts[0]}")
        for line in ("land 5 " + "over(" * 398 + "xyz", "edit field 0 0 5 5 " + "9" * 1981):
            self.assertEqual(len(line), 2000)
            with self.assertRaises(NoText):
                desk.say(line)
        for line in ("edits" + " " * 1995, "height 0 " + "9" * 1991, "x" * 2000, " " * 2000, "drop" + " 1" * 998):
            self.assertEqual(len(line), 2000)
            with self.assertRaises(NoLine):
                desk.say(line)

    def test_a_thousand_lines(self):
        desk = desk_of("land 5 x")
        for at in range(249):
            desk.say(f"edit set {at} 0 {at} 9 {at}")
            self.assertEqual(desk.say(f"height {at} 3"), str(at))
            desk.say("back")
            self.assertEqual(desk.say("needless"), "none")
        self.assertEqual(desk.say("edit set 0 0 0 0 0"), "250")


class Refused(unittest.TestCase):
    def refused(self, desk, line, kind, *fields):
        before = desk.say("save"), desk.say("edits")
        with self.subTest(line=line), self.assertRaises(kind) as caught:
            desk.say(line)
        self.assertIs(type(caught.exception), kind)
        if kind is NoText:
            self.assertEqual((caught.exception.row, caught.exception.spot), fields)
        self.assertEqual((desk.say("save"), desk.say("edits")), before)

    def test_no_lines(self):
        desk = desk_of(*START)
        for line in (
                "", " ", "  ", "nope", "Height 0 0", "heights 0 0", "height", "height 0", "height 0 0 0", "height  0 0", " height 0 0",
                "height 0 0 ", "height 0  0", "height x 0", "height 0 z", "height 00 0", "height 0 01", "height -0 0", "height 0 -", "height +1 0",
                "height 1.0 0", "height 1_0 0", "height 1000000000 0", "height 0 -1000000000", "height 0,0", "height (0 0)",
                "land", "land 5", "land 5 ", "land  5 x", "land x x", "land -5 x", "land -0 x", "land 05 x", "land 1000000000 x", "land 5  x",
                "land 5 x ", " land 5 x", "land 5 plus(x,  z)", "land 5 plus(x, z) ", "land x", "Land 5 x", "land - x",
                "edit", "edit set", "edit set 0 0 5 5", "edit set 0 0 5 5 5 5", "edit set 0 0 5 5 x", "edit set 0 0 5 x 5", "edit Set 0 0 5 5 5",
                "edit whole 0 0 5 5 5", "edit set 0 0 5 5 1000000000", "edit set 0 0 5 5 05", "edit  set 0 0 5 5 5", "edit set 0 0 5 5  5",
                "edit set 0 0 5 5 5 ", "edit copy 0 0 5 5 5", "edit copy 0 0 5 5 5 5 5", "edit copy 0 0 5 5 5 a", "edit field 0 0 5 5",
                "edit field 0 0 5 x", "edit field 0 0 5 x x", "edit field 0 0 5 5 ", "edit field 0 0 5 5 plus(x,  z)", "edit field 0 0 5 5 x ",
                "edit field 0 0 5 -0 x", "edit field 0 0 5 1000000000 x", "edit 1 set 0 0 5 5 5", "edit raise 0 0 5 5 plus(x, z)",
                "drop", "drop x", "drop 1 2", "drop 01", "swap 1", "swap", "swap 1 2 3", "swap 1 x", "back 1", "back ", "again 1", "backs",
                "edits 1", "bounds 0 0 1", "bounds 0 0 1 1 1", "square 0 0", "square 0 0 0 0", "tall 0 0 1 1", "tall 0 0 1 1 5 5", "highest 0 0 1",
                "highest 0 0 1 1 1", "route 0 0 1 1 0 0 1", "route 0 0 1 1 0 0 1 1 1", "pour 0 0 1 1 0 0", "pour 0 0 1 1 0 0 5 5", "sees 0 0 1",
                "sees 0 0 1 1 1", "needless 1", "save 1", "saves", "pour 1", "many", "thin", "twin", "ok", "none", "prices 0 0 1 1 0 0",
                "pour 0 0 1 1 0 0 1000000000", "tall 0 0 1 1 1000000000", "tile 0 0 0", "len", "copy 0 0 5 5 5 5", "set 0 0 5 5 5"):
            self.refused(desk, line, NoLine)

    def test_texts(self):
        desk = desk_of(*START)
        for text, spot in (("x)", 2), ("plus(x,z)", 8), ("a", 0), ("over(x, 0)", 0), ("let(x, 1, x)", 0), ("X", 1), ("plus(x, z", 10),
                           ("x x", 2), ("let(a, 1, b", 12), ("01", 2), ("plus( x, z)", 6), ("1000000000", 0), ("over(" * 80 + "x" + ", 1)" * 80, 0)):
            self.refused(desk, f"land 5 {text}", NoText, 1, spot)
            self.refused(desk, f"edit field 0 0 5 5 {text}", NoText, 1, spot)
            # A TEXT comes behind the words and ahead of what the function refuses.
            self.refused(desk, f"edit field 5 0 0 5 {text}", NoText, 1, spot)
            self.refused(desk, f"edit field 5 0 x 5 {text}", NoLine)
            self.refused(desk, f"land -5 {text}", NoLine)
            self.refused(desk, f"land 5 {text} ", NoLine)

    def test_what_the_functions_refuse(self):
        desk = desk_of(*START)
        desk.say("edit set 0 0 1 1 1")
        desk.say("back")
        desk.say("again")
        for line, kind in (
                ("edit set 1 0 0 0 5", NoBox), ("edit set 0 0 1000001 0 5", NoBox), ("edit copy 1 0 0 0 1001 0", NoBox),
                ("edit copy 0 0 1 1 1001 0", NoEdit), ("edit copy 0 0 1 1 0 -1001", NoEdit), ("edit field 1 0 0 0 x", NoBox), ("drop 9", NoSuch),
                ("drop 0", NoSuch), ("drop -1", NoSuch), ("swap 1 9", NoSuch), ("swap 9 1", NoSuch), ("again", NoDeed),
                ("height 1000001 0", NoPoint), ("height 0 -999999999", NoPoint), ("bounds 1 0 0 0", NoBox), ("square 4 0 0", NoLevel),
                ("square -1 999999999 0", NoLevel), ("square 0 62500 0", NoPoint), ("tall 0 0 64 64 5", NoBox), ("highest 0 0 64 64", NoBox),
                ("route 0 0 20 20 0 0 1 1", NoBox), ("route 0 0 5 5 0 0 6 1", NoPoint), ("pour 0 0 32 32 0 0 5", NoBox),
                ("pour 0 0 5 5 6 0 5", NoPoint), ("sees 0 0 201 0", NoPoint), ("sees 0 0 1000001 0", NoPoint)):
            self.refused(desk, line, kind)
        for _ in range(56):
            desk.say("edit set 0 0 1 1 1")
        for line, kind in (("edit set 0 0 1 1 1", Full), ("edit set 1 0 0 0 5", NoBox), ("edit field 0 0 1 1 a", NoText),
                           ("edit copy 0 0 1 1 1001 0", NoEdit), ("edit set 0 0 1 1", NoLine)):
            self.refused(desk, line, kind, 1, 0)
        self.assertFalse(issubclass(NoSuch, NoCount))

    def test_a_refused_line_keeps_what_was_taken_back(self):
        desk = desk_of(*START)
        desk.say("back")
        for line, kind in (("edit set 1 0 0 0 5", NoBox), ("land 5 a", NoText), ("drop 3", NoSuch), ("nope", NoLine), ("edit field 0 0 1 1 a", NoText)):
            self.refused(desk, line, kind, 1, 0)
        self.assertEqual((desk.say("again"), desk.say("edits")), ("ok", "1 set, 2 copy, 3 field"))
        self.assertEqual(desk.say("edit set 0 0 0 0 0"), "4")


if __name__ == "__main__":
    unittest.main()
