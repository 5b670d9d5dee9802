"""Point 3: the refusals, what they are made of and what they are kinds of."""

import unittest

from landweave import errors
from landweave.errors import (
    Full, LandError, NoBox, NoBrush, NoCount, NoDeed, NoEdit, NoLevel, NoLine, NoPoint, NoRules,
    NoSuch, NoText)

# Each class with fields: what they are called, what they are at first, and others.
FIELDS = (
    (NoRules, ("path", "why"), ((), ""), ((2, 1), "kind")),
    (NoEdit, ("why",), ("",), ("number",)),
    (NoBrush, ("path", "why"), ((), ""), ((0, 3, 1), "great")),
    (NoText, ("row", "spot"), (0, 0), (3, 17)),
    (NoSuch, ("number",), (0,), (12,)),
)
PLAIN = (LandError, NoBox, NoPoint, NoLevel, NoCount, Full, NoDeed, NoLine)
STRAIGHT = (NoRules, NoBox, NoPoint, NoLevel, NoCount, NoEdit, Full, NoDeed, NoBrush, NoText, NoLine)


def told(error, names):
    return tuple(getattr(error, name) for name in names)


class Making(unittest.TestCase):
    def test_of_nothing(self):
        for kind, names, empty, _ in FIELDS:
            with self.subTest(kind=kind.__name__):
                self.assertEqual(told(kind(), names), empty)
                self.assertEqual([type(x) for x in told(kind(), names)], [type(x) for x in empty])
        for kind in PLAIN:
            self.assertIs(type(kind()), kind)

    def test_by_places(self):
        for kind, names, _, others in FIELDS:
            with self.subTest(kind=kind.__name__):
                self.assertEqual(told(kind(*others), names), others)

    def test_by_names_in_any_order(self):
        for kind, names, _, others in FIELDS:
            with self.subTest(kind=kind.__name__):
                pairs = list(zip(names, others))
                self.assertEqual(told(kind(**dict(pairs)), names), others)
                self.assertEqual(told(kind(**dict(pairs[::-1])), names), others)

    def test_by_one_place_or_one_name_alone(self):
        self.assertEqual(told(NoRules((1,)), ("path", "why")), ((1,), ""))
        self.assertEqual(told(NoRules(why="name"), ("path", "why")), ((), "name"))
        self.assertEqual(told(NoBrush((4,)), ("path", "why")), ((4,), ""))
        self.assertEqual(told(NoBrush(why="kind"), ("path", "why")), ((), "kind"))
        self.assertEqual(told(NoText(5), ("row", "spot")), (5, 0))
        self.assertEqual(told(NoText(spot=5), ("row", "spot")), (0, 5))
        self.assertEqual(told(NoRules((1,), why="name"), ("path", "why")), ((1,), "name"))

    def test_without_fields_of_one_text(self):
        for kind in PLAIN:
            with self.subTest(kind=kind.__name__):
                self.assertEqual(str(kind("as it goes")), "as it goes")

    def test_fields_can_be_read_where_it_is_caught(self):
        for kind, names, _, others in FIELDS:
            with self.assertRaises(kind) as caught:
                raise kind(*others)
            self.assertEqual(told(caught.exception, names), others)

    def test_one_does_not_change_another(self):
        NoRules((1,), "kind")
        self.assertEqual(told(NoRules(), ("path", "why")), ((), ""))


class Kinds(unittest.TestCase):
    def test_land_error_stands_straight_under_value_error(self):
        self.assertEqual(LandError.__bases__, (ValueError,))

    def test_refusals_stand_straight_under_land_error(self):
        for kind in STRAIGHT:
            with self.subTest(kind=kind.__name__):
                self.assertEqual(kind.__bases__, (LandError,))
                self.assertFalse(issubclass(kind, LookupError))

    def test_no_such_stands_under_key_error_alone(self):
        self.assertEqual(NoSuch.__bases__, (KeyError,))
        self.assertFalse(issubclass(NoSuch, ValueError))
        self.assertFalse(issubclass(NoSuch, LandError))

    def test_each_is_made_in_this_module(self):
        for kind in STRAIGHT + (LandError, NoSuch):
            self.assertEqual(kind.__module__, "landweave.errors")
            self.assertIs(getattr(errors, kind.__name__), kind)


if __name__ == "__main__":
    unittest.main()
