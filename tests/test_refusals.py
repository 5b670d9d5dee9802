"""Point 7: must_rules, and what all that are handed rules refuse."""

import unittest

from landweave.errors import NoBox, NoPoint, NoRules
from landweave.fields import bounds_of, must_rules, steps_of, value_at
from tests.helper import bare, count_of, deep_in, within_calls

X, Z = ("x",), ("z",)
MANY = 10 ** 6
ONE = ("whole", 1)

# One field of each word, with the places of its fields, of its numbers and of its names.
WORDS = (
    (("whole", 5), (), (1,), ()),
    (("x",), (), (), ()),
    (("z",), (), (), ()),
    (("noise", 5, 5), (), (1, 2), ()),
    (("plus", X, Z), (1, 2), (), ()),
    (("less", X, Z), (1, 2), (), ()),
    (("times", X, Z), (1, 2), (), ()),
    (("least", X, Z), (1, 2), (), ()),
    (("most", X, Z), (1, 2), (), ()),
    (("over", X, 5), (1,), (2,), ()),
    (("below", X, Z, X, Z), (1, 2, 3, 4), (), ()),
    (("shift", 5, 5, X), (3,), (1, 2), ()),
    (("let", "a", X, Z), (2, 3), (), (1,)),
)

# The least and the greatest number at each place that has one.
BOUNDS = (
    ("whole", 1, -999999999, 999999999),
    ("noise", 1, 0, 10 ** 9),
    ("noise", 2, 0, 8),
    ("over", 2, 1, 10 ** 9),
    ("shift", 1, -1000, 1000),
    ("shift", 2, -1000, 1000),
)

NO_NUMBERS = (True, False, None, "5", "", (5,), [5], X)
NO_NAMES = ("", "abcdefghi", "A", "aB", "a1", "a b", " ", "a_b", "\u00e4", "a\n", 5, None, ("a",), ["a"], True)
NO_FIELDS = (
    None, 5, "x", "", ["x"], [], (), ("",), ("nope",), ("X",), ("xx",), (5,), (None,), (True,),
    (["x"],), (("x",),), ({},), ("x", 1), ("z", X), ("whole",), ("whole", 1, 2), ("noise", 1),
    ("noise", 1, 2, 3), ("plus",), ("plus", X), ("plus", X, X, X), ("less", X), ("times", X, X, 1),
    ("least", X), ("most",), ("over", X), ("over", X, 1, 1), ("below", X, X, X),
    ("below", X, X, X, X, X), ("shift", 1, X), ("shift", 1, 1, X, X), ("let", "a", X),
    ("let", "a", X, X, X), ("let", X, X), ("name",), ("name", "a", X), ("room", X, X), {"x": 1})


def put(field, place, part):
    return field[:place] + (part,) + field[place + 1:]


def put_all(field, places, part):
    """A field with a part at its first place of a field, and wholes at its others."""
    for place in places[1:]:
        field = put(field, place, ONE)
    return put(field, places[0], part)


def grown(many):
    """A field of so many fields, with wholes only for ends."""
    field = ONE
    for _ in range((many - 1) // 2):
        field = ("least", field, ONE)
    return field if many % 2 else ("over", field, 1)


class Refusing(unittest.TestCase):
    def refused(self, rules, path, why):
        """The rules are refused so by all that are handed rules."""
        calls = (lambda: must_rules(rules), lambda: value_at(rules, 0, 0, 0),
                 lambda: steps_of(rules), lambda: bounds_of(rules, 0, (0, 0, 0, 0)))
        for call in calls:
            with self.subTest(rules=str(rules)[:300]):
                with self.assertRaises(NoRules) as caught:
                    call()
                self.assertEqual(caught.exception.path, path)
                self.assertIs(type(caught.exception.path), tuple)
                self.assertEqual(caught.exception.why, why)

    def taken(self, rules):
        self.assertIsNone(must_rules(rules))


class Kinds(Refusing):
    def test_no_field_at_all(self):
        for bad in NO_FIELDS:
            self.refused(bad, (), "kind")

    def test_at_each_place_of_a_field(self):
        for field, places, _, _ in WORDS:
            for place in places:
                for bad in NO_FIELDS:
                    self.refused(put(field, place, bad), (place,), "kind")

    def test_each_word_as_it_should_be(self):
        for field, places, _, _ in WORDS:
            self.taken(field)
            for place in places:
                for other, _, _, _ in WORDS:
                    self.taken(put(field, place, other))

    def test_other_words_in_each_shape(self):
        for field, _, _, _ in WORDS + ((("name", "a"), (), (), ()),):
            for word in (field[0] + "s", field[0].title(), "nope", "", None, 3, (field[0],), [field[0]]):
                self.refused((word, *field[1:]), (), "kind")
                self.refused(("let", "a", X, (word, *field[1:])), (3,), "kind")

    def test_one_thing_less_or_more(self):
        for field, _, _, _ in WORDS:
            self.refused(field + (X,), (), "kind")
            self.refused(field[:-1], (), "kind")


class Numbers(Refusing):
    def test_at_each_place_of_a_number(self):
        for field, _, places, _ in WORDS:
            for place in places:
                for bad in NO_NUMBERS:
                    self.refused(put(field, place, bad), (place,), "number")

    def test_bounds(self):
        fields = {field[0]: field for field, _, _, _ in WORDS}
        for word, place, low, high in BOUNDS:
            self.taken(put(fields[word], place, low))
            self.taken(put(fields[word], place, high))
            for bad in (low - 1, high + 1, -10 ** 29, 10 ** 29):
                self.refused(put(fields[word], place, bad), (place,), "number")


class Names(Refusing):
    def test_of_lets(self):
        for bad in NO_NAMES:
            self.refused(("let", bad, X, Z), (1,), "name")

    def test_of_names(self):
        for bad in NO_NAMES:
            self.refused(("name", bad), (1,), "name")
            self.refused(("let", "a", X, ("name", bad)), (3, 1), "name")

    def test_that_are_some(self):
        for good in ("a", "z", "abcdefgh", "zzzzzzzz", "let", "name"):
            self.taken(("let", good, X, ("name", good)))


class Unbound(Refusing):
    def test_without_any_let(self):
        self.refused(("name", "a"), (), "unbound")

    def test_at_each_place_of_a_field(self):
        for field, places, _, _ in WORDS:
            for place in places:
                self.refused(put(field, place, ("name", "b")), (place,), "unbound")

    def test_within_its_own_first_field(self):
        self.refused(("let", "a", ("name", "a"), X), (2,), "unbound")
        self.refused(("let", "b", X, ("let", "a", ("name", "a"), X)), (3, 2), "unbound")
        self.taken(("let", "a", X, ("let", "a", ("name", "a"), X)))

    def test_beside_its_let(self):
        self.refused(("plus", ("name", "a"), ("let", "a", X, ("name", "a"))), (1,), "unbound")
        self.refused(("plus", ("let", "a", X, ("name", "a")), ("name", "a")), (2,), "unbound")
        self.refused(("let", "a", ("let", "b", X, ("name", "b")), ("name", "b")), (3,), "unbound")

    def test_another_name(self):
        self.refused(("let", "a", X, ("name", "aa")), (3,), "unbound")
        self.refused(("let", "ab", X, ("name", "a")), (3,), "unbound")

    def test_only_a_lets_last_field_has_its_name(self):
        # The third place of shift and below is a field as well.
        self.refused(("shift", 1, 1, ("name", "a")), (3,), "unbound")
        self.refused(("below", X, X, ("name", "a"), X), (3,), "unbound")


class Paths(Refusing):
    def test_within_deep_rules(self):
        around = ((lambda f: ("plus", X, f), 2), (lambda f: ("below", X, X, X, f), 4),
                  (lambda f: ("shift", 1, 1, f), 3), (lambda f: ("let", "a", X, f), 3),
                  (lambda f: ("let", "a", f, X), 2), (lambda f: ("over", f, 1), 1))
        for wrap, place in around:
            for bad, path, why in (
                    (("nope",), (), "kind"), (("whole", 10 ** 9), (1,), "number"),
                    (("noise", 0, 9), (2,), "number"), (("name", "A"), (1,), "name"),
                    (("let", "", X, X), (1,), "name"), (("name", "b"), (), "unbound")):
                self.refused(deep_in(bad, 59, wrap), (place,) * 59 + path, why)

    def test_of_several_turns(self):
        rules = ("let", "a", X, ("plus", Z, ("below", X, Z, ("over", ("shift", 0, 0, ("nope",)), 1), Z)))
        self.refused(rules, (3, 2, 3, 1, 3), "kind")


class First(Refusing):
    """Of two faults the first one is told."""

    def test_a_field_goes_ahead_of_what_lies_within(self):
        self.refused(("plus", ("nope",), ("nope",), X), (), "kind")
        self.refused(("noise", -1), (), "kind")
        self.refused(("let", "A", X), (), "kind")

    def test_parts_in_order(self):
        self.refused(("noise", -1, 9), (1,), "number")
        self.refused(("shift", 2000, 2000, ("nope",)), (1,), "number")
        self.refused(("shift", 0, 2000, ("nope",)), (2,), "number")
        self.refused(("over", ("nope",), 0), (1,), "kind")
        self.refused(("plus", ("whole", "a"), ("nope",)), (1, 1), "number")
        self.refused(("plus", ("nope",), ("whole", "a")), (1,), "kind")
        self.refused(("let", "A", ("nope",), ("nope",)), (1,), "name")
        self.refused(("let", "a", ("name", "a"), ("nope",)), (2,), "unbound")
        self.refused(("let", "a", ("nope",), ("name", "b")), (2,), "kind")

    def test_each_part_wholly_ahead_of_the_next(self):
        deep = ("over", ("over", ("over", ("nope",), 1), 1), 1)
        self.refused(("plus", deep, ("nope",)), (1, 1, 1, 1), "kind")
        self.refused(("over", ("over", X, 0), 0), (1, 2), "number")
        self.refused(("below", X, ("plus", X, ("name", "q")), ("nope",), 5), (2, 2), "unbound")

    def test_a_name_without_a_let_at_its_own_turn(self):
        self.refused(("plus", ("name", "a"), ("nope",)), (1,), "unbound")
        self.refused(("plus", ("nope",), ("name", "a")), (1,), "kind")
        self.refused(("plus", ("name", "A"), ("name", "a")), (1, 1), "name")
        self.refused(("plus", ("name", "a"), ("name", "A")), (1,), "unbound")

    def test_great_comes_last(self):
        self.refused(("plus", grown(300), ("nope",)), (2,), "kind")
        self.refused(("plus", grown(300), ("name", "a")), (2,), "unbound")
        steep = deep_in(X, 10, lambda field: ("times", field, ("whole", 999999999)))
        self.refused(("over", steep, 0), (2,), "number")

    def test_a_first_field_that_no_name_asks_for(self):
        for bad, path, why in ((("nope",), (), "kind"), (("whole", True), (1,), "number"),
                               (("name", "b"), (), "unbound"), (("let", "", X, X), (1,), "name")):
            self.refused(("let", "a", bad, X), (2, *path), why)


class TooMany(Refusing):
    def test_just_200_and_201(self):
        for many in (1, 2, 199, 200):
            self.assertEqual(count_of(grown(many)), many)
            self.taken(grown(many))
        for many in (201, 202, 300):
            self.assertEqual(count_of(grown(many)), many)
            self.refused(grown(many), (), "great")

    def test_each_end_counts_as_one(self):
        for end in (X, Z, ONE, ("noise", 3, 4)):
            rules = deep_in(end, 99, lambda field: ("least", field, end))
            self.taken(("over", rules, 1))
            self.refused(("over", ("over", rules, 1), 1), (), "great")
            self.refused(("least", rules, end), (), "great")

    def test_each_word_counts_as_one(self):
        for field, places, _, _ in WORDS:
            if not places or field[0] == "let":
                continue
            rules = X
            while count_of(bare(put_all(field, places, rules))) <= 200:
                rules = put_all(field, places, rules)
            rules = deep_in(rules, 200 - count_of(bare(rules)), lambda part: ("over", part, 1))
            self.taken(rules)
            self.refused(("over", rules, 1), (), "great")

    def test_with_names_exchanged(self):
        four = ("least", ("least", ("name", "a"), ("name", "a")), ("least", ("name", "a"), ("name", "a")))
        rules = ("let", "a", grown(49), four)
        self.assertEqual(count_of(bare(rules)), 199)
        self.taken(rules)
        self.taken(("over", rules, 1))
        self.refused(("over", ("over", rules, 1), 1), (), "great")
        self.refused(("let", "a", grown(50), four), (), "great")

    def test_lets_and_names_are_not_counted(self):
        rules = ("let", "a", grown(200), ("name", "a"))
        for _ in range(20):
            rules = ("let", "b", rules, ("name", "b"))
        self.taken(rules)
        self.refused(("let", "a", grown(201), ("name", "a")), (), "great")

    def test_shifts_are_counted(self):
        self.taken(deep_in(X, 199, lambda field: ("shift", 0, 0, field)))
        self.refused(deep_in(X, 200, lambda field: ("shift", 0, 0, field)), (), "great")

    def test_alike_ones_are_counted_each(self):
        self.refused(deep_in(X, 100, lambda field: ("plus", field, ("whole", 0))), (), "great")

    def test_a_first_field_that_no_name_asks_for(self):
        self.taken(("let", "a", grown(300), X))
        self.taken(("let", "a", grown(150), ("let", "a", grown(150), ("name", "a"))))
        twice = ("plus", ("name", "a"), ("name", "a"))
        self.taken(("let", "a", grown(150), ("let", "b", twice, ("name", "a"))))
        self.refused(("let", "a", grown(150), ("let", "b", twice, ("name", "b"))), (), "great")

    def doubled(self, last):
        """Names within names, each twice what the one before is."""
        names = ["abcdefgh"[:size] + sign for size in (0, 1, 2) for sign in "abcdefghijklmnopqr"]
        rules = last
        for one, other in list(zip(names, names[1:]))[::-1]:
            rules = ("let", other, ("most", ("name", one), ("name", one)), rules)
        return ("let", names[0], X, rules), names[-1]

    def test_very_many_are_refused_soon(self):
        _, last = self.doubled(X)
        with within_calls(200000):
            self.refused(self.doubled(("name", last))[0], (), "great")
            self.refused(self.doubled(("plus", X, ("name", last)))[0], (), "great")
            self.refused(self.doubled(("plus", ("name", last), ("whole", 1)))[0], (), "great")

    def test_very_many_that_no_name_asks_for(self):
        with within_calls(200000):
            self.taken(self.doubled(X)[0])
            _, last = self.doubled(X)
            self.taken(self.doubled(("let", "zz", ("name", last), Z))[0])

    def test_very_many_by_one_name(self):
        # Each let of the same name holds the one around it twice, four times in the end.
        rules = ("name", "a")
        for _ in range(58):
            rules = ("let", "a", ("below",) + (("name", "a"),) * 4, rules)
        with within_calls(200000):
            self.refused(("let", "a", Z, rules), (), "great")

    def test_products_of_products(self):
        # Each name is the product of the one before with itself: of numbers with figures without end.
        rules = ("name", "a")
        for _ in range(58):
            rules = ("let", "a", ("times", ("name", "a"), ("name", "a")), rules)
        with within_calls(200000):
            self.refused(("let", "a", X, rules), (), "great")
            self.taken(("let", "a", X, ("let", "b", rules, Z)))

    def test_names_for_names(self):
        rules = deep_in(("name", "a"), 99, lambda field: ("plus", field, ("name", "a")))
        for _ in range(57):
            rules = ("let", "a", ("name", "a"), rules)
        with within_calls(200000):
            self.assertEqual(value_at(("let", "a", X, rules), 0, 3, 0), 300)


class NotAsFarAsItLooks(Refusing):
    """Ranges that stay within, though the greatest numbers of their parts put together don't."""

    def test_parts_that_are_made_small(self):
        small = ("over", ("times", X, X), 10 ** 9)
        self.taken(deep_in(small, 5, lambda field: ("times", field, small)))
        least = ("least", X, ("whole", 9))
        most = ("most", least, ("whole", -9))
        self.taken(deep_in(most, 30, lambda field: ("times", field, most)))
        self.refused(deep_in(most, 31, lambda field: ("times", field, most)), (), "great")

    def test_parts_that_are_never_chosen(self):
        fifth = deep_in(X, 4, lambda field: ("times", field, X))
        self.taken(fifth)
        self.taken(("least", fifth, fifth))
        self.taken(("over", ("most", fifth, ("whole", 3)), 7))
        self.taken(("below", Z, ("whole", 10 ** 8), fifth, ("x",)))

    def test_values_are_told(self):
        fifth = deep_in(X, 4, lambda field: ("times", field, X))
        self.assertEqual(value_at(("least", fifth, fifth), 0, -7, 0), -7 ** 5)
        self.assertEqual(bounds_of(("least", fifth, fifth), 0, (0, 0, 10 ** 6, 0)), (0, 10 ** 30))


class TooFar(Refusing):
    def setUp(self):
        # x * x * x * x * x is from -10 ** 30 to 10 ** 30 on the land.
        self.fifth = deep_in(X, 4, lambda field: ("times", field, X))
        self.even = deep_in(("whole", MANY), 4, lambda field: ("times", field, ("whole", MANY)))

    def test_just_so_far(self):
        self.taken(self.fifth)
        self.taken(deep_in(Z, 4, lambda field: ("times", field, Z)))
        self.taken(self.even)
        self.taken(("times", self.even, ("whole", -1)))

    def test_one_more_either_way(self):
        self.refused(("plus", self.fifth, ONE), (), "great")
        self.refused(("less", self.fifth, ONE), (), "great")
        self.refused(("plus", self.even, ONE), (), "great")
        self.refused(("less", ("times", self.even, ("whole", -1)), ONE), (), "great")
        self.taken(("less", self.even, ONE))

    def test_all_fields_are_ranged(self):
        self.refused(("least", ("plus", self.even, ONE), X), (), "great")
        self.refused(("over", ("plus", self.even, ONE), 10 ** 9), (), "great")
        far = ("plus", self.even, ONE)
        self.refused(("below", ONE, ONE, far, X), (), "great")
        self.refused(("below", X, ("whole", 10 ** 8), X, far), (), "great")
        self.refused(("times", far, ("whole", 0)), (), "great")

    def test_where_shifts_put_them(self):
        for dx in (1, -1):
            self.refused(("shift", dx, 0, self.fifth), (), "great")
            self.refused(("shift", 0, dx, deep_in(Z, 4, lambda field: ("times", field, Z))), (), "great")
        self.taken(("shift", 0, 1, self.fifth))
        self.taken(("shift", 1, 0, ("shift", -1, 0, self.fifth)))

    def test_names_where_they_stand(self):
        self.taken(("let", "a", self.fifth, ("shift", 1, 0, X)))
        self.taken(("let", "a", self.fifth, ("plus", ("over", ("name", "a"), 5), ("shift", 1, 0, X))))
        self.refused(("let", "a", self.fifth, ("shift", 1, 0, ("name", "a"))), (), "great")
        self.taken(("shift", 1, 0, ("let", "a", self.fifth, ("shift", -1, 0, ("name", "a")))))

    def test_a_first_field_that_no_name_asks_for(self):
        self.taken(("let", "a", ("plus", self.even, ONE), X))
        self.refused(("let", "a", ("plus", self.even, ONE), ("name", "a")), (), "great")

    def test_noise_is_ranged_from_0_to_65535(self):
        noise = ("noise", 0, 0)
        sixth = deep_in(noise, 5, lambda field: ("times", field, noise))
        self.taken(sixth)
        # Twelve times 65535 ** 6 is still less than 10 ** 30.
        many = 10 ** 30 // 65535 ** 6
        self.taken(("times", sixth, ("whole", many)))
        self.refused(("times", sixth, ("whole", many + 1)), (), "great")
        self.refused(("times", sixth, ("whole", -many - 1)), (), "great")


class Behind(unittest.TestCase):
    def test_no_point_behind_no_rules(self):
        for bad in (("nope",), ("name", "a"), grown(201)):
            with self.assertRaises(NoRules):
                value_at(bad, 0, MANY + 1, 0)
        with self.assertRaises(NoPoint):
            value_at(X, 0, MANY + 1, 0)

    def test_no_box_behind_no_rules(self):
        for bad in (("nope",), ("name", "a"), grown(201)):
            with self.assertRaises(NoRules):
                bounds_of(bad, 0, (1, 1, 0, 0))
        with self.assertRaises(NoBox):
            bounds_of(X, 0, (1, 1, 0, 0))


if __name__ == "__main__":
    unittest.main()
