"""Point 24: lands saved and read."""

import unittest

from landweave.errors import NoDeed, NoText
from landweave.land import Land
from landweave.texts import read_land, saved
from tests.helper import Chance, points_in
from tests.plain_texts import plain_text
from tests.test_land import HILLS, land_of

END = 10 ** 6
EDITS = [("set", (0, 0, 5, 5), -7), ("raise", (-END, -END, END, END), 999999999), ("least", (1, 2, 3, 4), 0),
         ("most", (-4, -3, -2, -1), -999999999), ("field", (0, 0, 9, 9), ("let", "a", ("noise", 7, 3), ("plus", ("name", "a"), ("x",)))),
         ("copy", (5, 5, 9, 9), -1000, 1000)]
TEXT = """land 12
rules over(noise(7, 3), 1000)
edit 1 set 0 0 5 5 -7
edit 2 raise -1000000 -1000000 1000000 1000000 999999999
edit 3 least 1 2 3 4 0
edit 4 most -4 -3 -2 -1 -999999999
edit 5 field 0 0 9 9 let(a, noise(7, 3), plus(a, x))
edit 6 copy 5 5 9 9 -1000 1000"""
RULES = ("over", ("noise", 7, 3), 1000)


def plain_save(land):
    """The text of a land, straight by point 24."""
    rows = ["land " + str(land.seed()), "rules " + plain_text(land.rules())]
    for number, (word, box, *things) in land.edits():
        last = plain_text(things[0]) if word == "field" else " ".join(map(str, things))
        rows.append(f"edit {number} {word} {box[0]} {box[1]} {box[2]} {box[3]} {last}")
    return "\n".join(rows)


class Saves(unittest.TestCase):
    def same(self, land):
        """A land saved and read: alike, with its numbers, without its deeds."""
        text = saved(land)
        self.assertEqual(text, plain_save(land))
        other = read_land(text)
        self.assertTrue(other == land)
        self.assertEqual((other.edits(), other.rules(), other.seed()), (land.edits(), land.rules(), land.seed()))
        self.assertEqual(saved(other), text)
        for ask in (other.back, other.again):
            with self.assertRaises(NoDeed):
                ask()
        return other

    def test_of_all_words(self):
        land = land_of(RULES, 12, EDITS)
        self.assertEqual(saved(land), TEXT)
        other = self.same(land)
        for point in points_in((-5, -5, 11, 11)):
            self.assertEqual(other.height(*point), land.height(*point))
        self.assertEqual(other.edit(("set", (0, 0, 0, 0), 1)), 7)

    def test_of_no_edit(self):
        for seed in (0, 7, 10 ** 9):
            land = Land(HILLS, seed)
            other = self.same(land)
            self.assertEqual(saved(land).split("\n")[0], f"land {seed}")
            self.assertEqual(other.edit(("set", (0, 0, 0, 0), 1)), 1)

    def test_numbers_that_arent_in_a_row(self):
        land = land_of(RULES, 12, EDITS)
        land.drop(2)
        land.drop(6)
        land.swap(1, 5)
        other = self.same(land)
        self.assertEqual([number for number, _ in other.edits()], [5, 3, 4, 1])
        # The next number is told by what stands, not by what ever stood.
        self.assertEqual((land.edit(EDITS[0]), other.edit(EDITS[0])), (7, 6))

    def test_by_chance(self):
        chance = Chance(430)
        rules = chance.many_rules(20, 3)
        for many in (0, 1, 2, 5, 20, 60):
            for _ in range(3):
                first = chance.random.choice(rules)
                land = land_of(first, chance.seed(), chance.edits(many, (-50, -50, 50, 50), rules))
                for _ in range(many // 3):
                    numbers = [number for number, _ in land.edits()]
                    land.swap(chance.random.choice(numbers), chance.random.choice(numbers))
                    if chance.random.random() < 0.4:
                        land.drop(chance.random.choice(numbers))
                self.same(land)

    def test_the_next_number(self):
        for numbers, told in (((), 1), ((5,), 6), ((9, 3), 10), ((3, 9, 4), 10), ((1,), 2), ((10 ** 9,), 10 ** 9 + 1)):
            text = "\n".join(["land 5", "rules x", *[f"edit {number} set 0 0 1 1 {number % 9}" for number in numbers]])
            land = read_land(text)
            self.assertEqual([number for number, _ in land.edits()], list(numbers))
            self.assertEqual(land.twin().edit(("set", (0, 0, 0, 0), 1)), told)
            self.assertEqual(land.edit(("set", (0, 0, 0, 0), 1)), told)
            land.back()
            self.assertEqual(saved(land), text)

    def test_a_land_that_is_read_has_no_deeds(self):
        land = read_land(TEXT)
        for ask in (land.back, land.again, land.twin().back):
            with self.assertRaises(NoDeed):
                ask()
        land.drop(1)
        land.back()
        self.assertEqual(saved(land), TEXT)
        with self.assertRaises(NoDeed):
            land.back()

    def test_saving_changes_nothing(self):
        land = land_of(RULES, 12, EDITS)
        land.back()
        self.assertEqual(saved(land), saved(land))
        land.again()
        self.assertEqual(saved(land), TEXT)
        land.drop(1)
        self.assertNotEqual(saved(land), TEXT)

    def test_names_that_cant_be_read_back(self):
        land = Land(("let", "x", ("whole", 1), ("name", "x")), 5)
        self.assertEqual(saved(land), "land 5\nrules let(x, 1, x)")
        with self.assertRaises(NoText) as caught:
            read_land(saved(land))
        self.assertEqual((caught.exception.row, caught.exception.spot), (2, 0))

    def test_by_names(self):
        self.assertEqual(saved(land=read_land(text=TEXT)), TEXT)


class Faults(unittest.TestCase):
    rows = TEXT.split("\n")

    def refused(self, text, row):
        with self.subTest(text=text[-300:]), self.assertRaises(NoText) as caught:
            read_land(text)
        self.assertEqual((caught.exception.row, caught.exception.spot), (row, 0))

    def with_row(self, number, row):
        rows = list(self.rows)
        rows[number - 1] = row
        return "\n".join(rows)

    def test_lands(self):
        for row in ("", "land", "land ", "land -1", "land 1000000001", "land 05", "land -0", "land  5", " land 5", "land 5 ", "land x",
                    "Land 5", "lands 5", "land 5 6", "land +5", "land 5.0", "5", "rules x", "land 1" + "0" * 40, "land 1_0", "land\t5",
                    "edit 1 set 0 0 1 1 5", "land 5 x"):
            self.refused(self.with_row(1, row), 1)
            self.refused(row, 1)
        for row in ("land 0", "land 1000000000"):
            self.assertEqual(len(read_land(self.with_row(1, row))), 6)

    def test_rules(self):
        for row in ("", "rules", "rules ", "rule x", "rules  x", " rules x", "rules x ", "rules X", "rules a", "rules over(x, 0)", "x",
                    "rules plus(x,z)", "rules plus(x,  z)", "rules let(x, 1, x)", "rules x x", "rulesx", "rules\tx", "Rules x",
                    "rules x\r", "land 5", "rules plus(x, z", "rules " + "over(" * 70 + "x" + ", 1)" * 70):
            self.refused(self.with_row(2, row), 2)
            self.refused("land 5\n" + row, 2)

    def test_rows_that_lack(self):
        self.refused("", 1)
        self.refused("land 5", 2)
        self.refused("land 5\n", 2)
        self.refused("land 5\nedit 1 set 0 0 1 1 5", 2)
        self.refused("land", 1)
        self.assertEqual(len(read_land("land 5\nrules x")), 0)

    def test_rows_without_signs(self):
        self.refused(TEXT + "\n", 9)
        self.refused("land 5\nrules x\n", 3)
        self.refused("\n" + TEXT, 1)
        self.refused("\n", 1)
        self.refused(TEXT.replace("\n", "\n\n", 1), 2)
        self.refused(TEXT.replace("\nedit 3", "\n\nedit 3"), 5)
        self.refused(TEXT + "\n\n", 9)

    def test_edits(self):
        for row in ("edit", "edit ", "edit 7", "edit 7 set", "edit 7 set 0 0 5 5", "edit 7 set 0 0 5 5 ", "edit 7 set 0 0 5 5 5 5",
                    "edit 7 set 0 0 5 5 x", "edit 7 set 0 0 5 5 05", "edit 7 set 0 0 5 5 -0", "edit 7 set 0 0 5 5 1000000000",
                    "edit 7 set 0 0 5 5 -1000000000", "edit 7 set 0 0 5 5 1" + "0" * 40, "edit 7 set 1 0 0 5 5", "edit 7 set 0 1 5 0 5",
                    "edit 7 set 0 0 1000001 5 5", "edit 7 set -1000001 0 5 5 5", "edit 7 set 00 0 5 5 5", "edit 7 set 0 0 5 5  5",
                    " edit 7 set 0 0 5 5 5", "edit  7 set 0 0 5 5 5", "edit 7 set 0 0 5 5 5 ", "Edit 7 set 0 0 5 5 5", "set 0 0 5 5 5",
                    "edit 7 Set 0 0 5 5 5", "edit 7 sets 0 0 5 5 5", "edit 7 whole 0 0 5 5 5", "edit 7  0 0 5 5 5", "edit seven set 0 0 5 5 5",
                    "edit 7 copy 0 0 5 5 5", "edit 7 copy 0 0 5 5 5 5 5", "edit 7 copy 0 0 5 5 1001 5", "edit 7 copy 0 0 5 5 5 -1001",
                    "edit 7 copy 0 0 5 5 5 x", "edit 7 copy 0 0 5 5 x 5", "edit 7 copy 5 0 0 5 5 5",
                    "edit 7 field 0 0 5 5", "edit 7 field 0 0 5 5 ", "edit 7 field 0 0 5 5 a", "edit 7 field 0 0 5 5 plus(x,z)",
                    "edit 7 field 0 0 5 5 plus(x,  z)", "edit 7 field 0 0 5 5  x", "edit 7 field 0 0 5 5 x ", "edit 7 field 5 0 0 5 x",
                    "edit 7 field 0 0 5 x x", "edit 7 field 0 0 5 5 over(x, 0)", "edit 7 field 0 0 5 5 let(z, 1, z)",
                    "edit 7 raise 0 0 5 5 plus(x, z)", "drop 1", "land 5", "rules x", "edits", "edit 7 set 0 0 5 5 5\r",
                    "edit 7 raise 0 0 5 5 1 1", "edit 7 least 0 0 5 5", "edit 7 most 0 0 5 5 1_0"):
            self.refused(TEXT + "\n" + row, 9)
            self.refused(self.with_row(5, row), 5)
            self.refused("land 5\nrules x\n" + row, 3)
        self.assertEqual(len(read_land(TEXT + "\nedit 7 set 0 0 5 5 5")), 7)

    def test_numbers(self):
        for number in ("0", "-1", "1000000001", "01", "-0", "", "x", "1" + "0" * 40, "3.0", "6", "1"):
            self.refused(TEXT + f"\nedit {number} set 0 0 5 5 5", 9)
        for number in ("7", "1000000000", "99"):
            self.assertEqual(read_land(TEXT + f"\nedit {number} set 0 0 5 5 5").edits()[-1], (int(number), ("set", (0, 0, 5, 5), 5)))
        self.refused(TEXT.replace("edit 4", "edit 2"), 6)
        self.refused(TEXT.replace("edit 1 ", "edit 6 "), 8)

    def test_the_first_row_is_told(self):
        self.refused(self.with_row(5, "x") + "\n", 5)
        self.refused(self.with_row(8, "x").replace("rules", "rule"), 2)
        self.refused(TEXT.replace("land 12", "land -12").replace("rules", "rule"), 1)
        self.refused(TEXT.replace("edit 2", "edit 1").replace("edit 5", "edit 1"), 4)

    def test_a_row_more_than_62(self):
        rows = [f"edit {number} set 0 0 1 1 5" for number in range(1, 70)]
        whole = ["land 5", "rules x", *rows]
        land = read_land("\n".join(whole[:62]))
        self.assertEqual((len(land), saved(land)), (60, "\n".join(whole[:62])))
        self.refused("\n".join(whole[:63]), 63)
        self.refused("\n".join(whole), 63)
        self.refused("\n".join(whole[:62] + ["edit 61 x"]), 63)
        self.refused("\n".join(whole[:62]) + "\n", 63)
        self.refused("\n".join(whole[:40] + ["x"] + whole[40:]), 41)
        self.refused("\n".join(whole[:61] + ["x"] + whole[62:]), 62)


if __name__ == "__main__":
    unittest.main()
