"""Point 23: rules written and read."""

import unittest

from landweave.errors import NoRules, NoText
from landweave.fields import must_rules
from landweave.texts import read_rules, show_rules
from tests.helper import Chance, deep_in, within_calls
from tests.plain_texts import KINDS, plain_spot, plain_text
from tests.test_land import HILLS

X, Z = ("x",), ("z",)

# Texts and their rules, one of each word at least.
TEXTS = (
    ("x", X), ("z", Z), ("0", ("whole", 0)), ("7", ("whole", 7)), ("-7", ("whole", -7)), ("999999999", ("whole", 999999999)),
    ("-999999999", ("whole", -999999999)), ("10", ("whole", 10)), ("noise(7, 3)", ("noise", 7, 3)),
    ("noise(0, 0)", ("noise", 0, 0)), ("noise(1000000000, 8)", ("noise", 10 ** 9, 8)), ("plus(x, z)", ("plus", X, Z)),
    ("less(x, 5)", ("less", X, ("whole", 5))), ("times(z, -5)", ("times", Z, ("whole", -5))), ("least(x, z)", ("least", X, Z)),
    ("most(x, z)", ("most", X, Z)), ("over(x, 1000000000)", ("over", X, 10 ** 9)), ("over(x, 1)", ("over", X, 1)),
    ("below(x, z, 1, 2)", ("below", X, Z, ("whole", 1), ("whole", 2))), ("shift(-1000, 1000, x)", ("shift", -1000, 1000, X)),
    ("shift(0, 0, z)", ("shift", 0, 0, Z)), ("let(a, x, a)", ("let", "a", X, ("name", "a"))),
    ("let(abcdefgh, x, abcdefgh)", ("let", "abcdefgh", X, ("name", "abcdefgh"))),
    ("let(plus, x, plus(plus, plus))", ("let", "plus", X, ("plus", ("name", "plus"), ("name", "plus")))),
    ("let(xx, x, over(xx, 2))", ("let", "xx", X, ("over", ("name", "xx"), 2))),
    ("let(whole, x, let(name, whole, name))", ("let", "whole", X, ("let", "name", ("name", "whole"), ("name", "name")))),
    ("let(let, noise(1, 2), noise(3, 4))", ("let", "let", ("noise", 1, 2), ("noise", 3, 4))),
)
# Whole texts that are no rules.
NO_RULES = (
    "a", "abcdefgh", "plus", "noise", "xz", "zx", "xx", "whole", "name", "noise(-1, 0)", "noise(0, -1)", "noise(0, 9)",
    "noise(1000000001, 0)", "over(x, 0)", "over(x, -1)", "over(x, 1000000001)", "shift(1001, 0, x)", "shift(0, -1001, x)",
    "1000000000", "-1000000000", "1" + "0" * 60, "-1" + "0" * 60, "plus(x, a)", "let(a, a, x)", "plus(let(a, x, a), a)",
    "let(x, 1, x)", "let(z, 1, 5)", "let(x, z, 1)", "plus(x, let(z, 1, z))", "let(a, x, b)", "let(aa, x, a)", "over(x, 9" + "0" * 40 + ")",
    "noise(" + "1" * 50 + ", 5)", "shift(-" + "1" * 50 + ", 5, x)")
# Texts that go wrong, each with its spot.
SPOTS = (
    ("", 1), (" ", 1), ("x ", 2), (" x", 1), ("xx ", 3), ("X", 1), ("aB", 2), ("a1", 2), ("a_", 2), ("(", 1), (")", 1), (",", 1),
    ("()", 1), ("-", 2), ("--1", 2), ("-0", 2), ("-x", 2), ("+1", 1), ("00", 2), ("01", 2), ("-01", 2), ("1 ", 2), ("1x", 2),
    ("1.5", 2), ("1_0", 2), ("1,", 2), ("x)", 2), ("x(", 2), ("z(", 2), ("a(", 2), ("whole(", 6), ("whole(1)", 6), ("name(", 5),
    ("name(a)", 5), ("noises(", 7), ("nois(", 5), ("plus(", 6), ("plus()", 6), ("plus(x", 7), ("plus(x)", 7), ("plus(x,", 8),
    ("plus(x,z)", 8), ("plus(x , z)", 7), ("plus(x,  z)", 9), ("plus( x, z)", 6), ("plus(x, z )", 10), ("plus(x, z) ", 11),
    ("plus(x, z))", 11), ("plus(x, z", 10), ("plus(x, z, x)", 10), ("plus (x, z)", 5), ("plus(x, z)x", 11), ("plus(x, z)\n", 11),
    ("\nx", 1), ("x\n", 2), ("plus(x,\nz)", 8), ("plus(x, a b)", 10), ("abcdefghi", 9), ("plus(abcdefghi, x)", 14),
    ("let(abcdefghi, x, x)", 13), ("let(abcdefgh", 13), ("let(", 5), ("let(1, x, x)", 5), ("let(-, x, x)", 5), ("let(A, x, x)", 5),
    ("let(a1, x, x)", 6), ("let(a(x), x, x)", 6), ("let(plus(x, z), x, x)", 9), ("let(a, x)", 9), ("let(a, x, x", 12),
    ("let(x, 1, x", 12), ("let(x, 1 , x)", 9), ("noise(x, 5)", 7), ("noise(a, 5)", 7), ("noise(-x, 5)", 8), ("noise(5)", 8),
    ("noise(5, x)", 10), ("noise(5, 6, 7)", 11), ("noise(05, 6)", 8), ("noise(-0, 6)", 8), ("noise(5, 00)", 11),
    ("noise(plus(x, z), 6)", 7), ("over(x, z)", 9), ("over(x, a)", 9), ("over(5, 5, 5)", 10), ("over(x, 5)5", 11), ("over(x)", 7),
    ("below(x, z, 1)", 14), ("below(x, z, 1, 2, 3)", 17), ("shift(x, 0, x)", 7), ("shift(1, 1)", 11), ("shift(1, -, x)", 11),
    ("shift(1, 1, x, x)", 14), ("plus(noise(1, 2), over(x, 3)", 29), ("least(x, 1" + "0" * 60, 71), ("1" + "0" * 60 + "x", 62))


class Texts(unittest.TestCase):
    def read(self, text):
        """What read_rules tells of a text: rules, or (ROW, SPOT) of its refusal."""
        try:
            return read_rules(text)
        except NoText as error:
            return [error.row, error.spot]

    def test_each_word_there_and_back(self):
        for text, rules in TEXTS:
            self.assertEqual(read_rules(text), rules)
            self.assertEqual(show_rules(rules), text)
            self.assertEqual(plain_text(rules), text)

    def test_by_chance(self):
        chance = Chance(420)
        for rules in chance.many_rules(200, 4):
            text = show_rules(rules)
            self.assertEqual(text, plain_text(rules))
            self.assertEqual(read_rules(text), rules)

    def test_names_that_are_fields(self):
        rules = ("let", "x", ("whole", 1), ("plus", ("name", "x"), X))
        self.assertIsNone(must_rules(rules))
        self.assertEqual(show_rules(rules), "let(x, 1, plus(x, x))")
        self.assertEqual(self.read(show_rules(rules)), [1, 0])
        self.assertEqual(show_rules(("let", "z", Z, ("name", "z"))), "let(z, z, z)")
        self.assertEqual(self.read("let(z, z, z)"), [1, 0])

    def test_no_rules_are_shown(self):
        for rules, path, why in ((("whole", 10 ** 9), (1,), "number"), ("x", (), "kind"), (("plus", X, ("name", "a")), (2,), "unbound"),
                                 (("let", "A", X, X), (1,), "name"), (deep_in(X, 200, lambda f: ("shift", 0, 0, f)), (), "great")):
            with self.subTest(rules=rules), self.assertRaises(NoRules) as caught:
                show_rules(rules)
            self.assertEqual((caught.exception.path, caught.exception.why), (path, why))

    def test_texts_that_are_no_rules(self):
        for text in NO_RULES:
            self.assertEqual(plain_spot(text), 0, text)
            self.assertEqual(self.read(text), [1, 0], text)

    def test_spots(self):
        for text, spot in SPOTS:
            self.assertEqual(plain_spot(text), spot, text)
            self.assertEqual(self.read(text), [1, spot], text)

    def test_each_place_to_break_off(self):
        for text, _ in TEXTS + tuple((text, None) for text in NO_RULES):
            for end in range(len(text)):
                spot = plain_spot(text[:end])
                if spot:
                    self.assertEqual(spot, end + 1)
                    self.assertEqual(self.read(text[:end]), [1, spot], text[:end])

    def test_signs_changed_by_chance(self):
        chance = Chance(421)
        seen = {"rules": 0, "none": 0, "spot": 0}
        texts = [text for text, _ in TEXTS] + list(NO_RULES) + [show_rules(rules) for rules in chance.many_rules(30, 3)]
        for _ in range(6000):
            text = chance.random.choice(texts)
            for _ in range(chance.random.choice((1, 1, 2))):
                at = chance.random.randint(0, len(text))
                signs = chance.random.choice(("", "x", "z", "a", "0", "1", "-", " ", ",", "(", ")", ", ", "over(", "A", "\n", "."))
                text = text[:at] + signs + text[at + chance.random.choice((0, 1)):]
            told, spot = self.read(text), plain_spot(text)
            if spot:
                self.assertEqual(told, [1, spot], text)
                seen["spot"] += 1
            elif isinstance(told, tuple):
                self.assertIsNone(must_rules(told))
                self.assertEqual(show_rules(told), text)
                seen["rules"] += 1
            else:
                self.assertEqual(told, [1, 0], text)
                seen["none"] += 1
        self.assertGreater(min(seen.values()), 200, seen)

    def test_each_sign_at_each_place(self):
        signs = [chr(sign) for sign in range(32, 127)] + ["\n"]
        for text in ("let(a, over(x, -10), noise(7, 0))", "below(x, abcdefgh, 0, z)", "shift(-1, 1000, plus)"):
            for at in range(len(text) + 1):
                for sign in signs:
                    other = text[:at] + sign
                    spot = plain_spot(other)
                    self.assertIn(spot, (0, at + 1, at + 2))
                    if spot:
                        self.assertEqual(self.read(other), [1, spot], other)

    def test_numbers_of_very_many_figures(self):
        for many in (10, 30, 31, 300, 3990):
            for text in ("1" * many, "-" + "9" * many, "over(x, " + "7" * (many - 9) + ")" if many > 100 else "over(x, " + "7" * 11 + ")"):
                self.assertEqual(self.read(text), [1, 0])
                self.assertEqual(self.read(text + "x"), [1, len(text) + 1])
        self.assertEqual(self.read("9" * 3000 + "a"), [1, 3001])
        self.assertEqual(self.read("0" * 3000), [1, 2])

    def test_numbers_at_every_place(self):
        for word, kinds in KINDS.items():
            for at, kind in enumerate(kinds):
                for number, taken in (("-5", True), ("0", True), ("-0", False), ("05", False), ("5", True), ("-", False), ("1" * 40, True)):
                    parts = ["a" if part == "W" else "x" if part == "F" else "1" for part in kinds]
                    parts[at] = number
                    text = word + "(" + ", ".join(parts) + ")"
                    good = taken and kind != "W"
                    self.assertEqual(plain_spot(text) == 0, good, text)
                    told = self.read(text)
                    self.assertEqual(isinstance(told, tuple) or told == [1, 0], good, text)

    def test_very_many_brackets(self):
        for head, tail in (("over(", ", 1)"), ("shift(0, 0, ", ")"), ("let(a, x, ", ")"), ("let(a, ", ", x)"), ("plus(x, ", ")"),
                           ("below(x, x, ", ", x)")):
            for many in (61, 100, 250, 300):
                text = head * many + "x" + tail * many
                self.assertEqual(plain_spot(text), 0)
                with within_calls(200000):
                    self.assertEqual(self.read(text), [1, 0], text[:50])
                    self.assertEqual(self.read(text[:-1]), [1, len(text)])
                    self.assertEqual(self.read(text + ")"), [1, len(text) + 1])
                    self.assertEqual(self.read(head * many), [1, len(head) * many + 1])
                    self.assertEqual(self.read(head * many + "-0"), [1, len(head) * many + 2])
        self.assertEqual(self.read("over(" * 799), [1, 3996])
        self.assertEqual(self.read("plus(" * 799 + ")"), [1, 3996])

    def test_as_many_brackets_as_rules_may_have(self):
        for head, tail, wrap in (("over(", ", 1)", lambda part: ("over", part, 1)), ("shift(0, 0, ", ")", lambda part: ("shift", 0, 0, part)),
                                 ("let(a, x, ", ")", lambda part: ("let", "a", X, part))):
            text = head * 59 + "noise(1, 2)" + tail * 59
            self.assertEqual(read_rules(text), deep_in(("noise", 1, 2), 59, wrap))
            self.assertEqual(show_rules(read_rules(text)), text)

    def test_too_many_fields(self):
        self.assertEqual(self.read("plus(x, " * 50 + "x" + ")" * 50), deep_in(X, 50, lambda part: ("plus", X, part)))
        wide = "x"
        for _ in range(6):
            wide = f"least({wide}, {wide})"
        self.assertEqual(show_rules(read_rules(wide)), wide)
        self.assertEqual(self.read(f"least({wide}, {wide})"), [1, 0])
        self.assertEqual(self.read("times(x, " * 6 + "x" + ")" * 6), [1, 0])

    def test_by_names(self):
        self.assertEqual(read_rules(text=show_rules(rules=HILLS)), HILLS)


if __name__ == "__main__":
    unittest.main()
