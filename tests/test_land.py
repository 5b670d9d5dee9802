"""Point 10: a land, its heights, which lands are alike, len and truth."""

import unittest

from landweave.errors import NoCount, NoPoint, NoRules
from landweave.land import MEMORY, Land
from tests.helper import Chance, plain_height, plain_value

HILLS = ("let", "a", ("over", ("noise", 7, 4), 100), ("plus", ("name", "a"), ("shift", 3, -2, ("name", "a"))))
END = 10 ** 6
FAR = END + 1


def land_of(rules, seed, edits, **more):
    land = Land(rules, seed, **more)
    for edit in edits:
        land.edit(edit)
    return land


class Heights(unittest.TestCase):
    def test_of_rules_alone(self):
        chance = Chance(10)
        for rules in chance.many_rules(60, 4):
            seed = chance.seed()
            land = Land(rules, seed)
            for _ in range(6):
                x, z = chance.point()
                self.assertEqual(land.height(x, z), plain_value(rules, seed, x, z))

    def test_of_rules_and_edits(self):
        chance = Chance(11)
        rules = chance.many_rules(12, 3)
        for many in (1, 2, 3, 5, 8, 20, 60):
            for _ in range(4):
                seed = chance.seed()
                edits = chance.edits(many, (-20, -20, 20, 20), rules)
                land = land_of(rules[0], seed, edits)
                for _ in range(30):
                    x, z = chance.random.randint(-24, 24), chance.random.randint(-24, 24)
                    self.assertEqual(land.height(x, z), plain_height(rules[0], seed, edits, x, z))

    def test_at_corners_beside_and_far_off(self):
        box = (-3, 2, 4, 7)
        edits = [("raise", box, 1000), ("most", (0, 0, 9, 9), 1500), ("copy", (4, 7, 30, 30), -4, 0)]
        land = land_of(HILLS, 5, edits)
        xs, zs = (-END, -4, -3, -2, 0, 3, 4, 5, 30, 31, END), (-END, 1, 2, 3, 6, 7, 8, 30, 31, END)
        for x in xs:
            for z in zs:
                self.assertEqual(land.height(x, z), plain_height(HILLS, 5, edits, x, z), (x, z))

    def test_at_the_ends_of_the_land(self):
        land = land_of(("plus", ("x",), ("z",)), 0, [("copy", (END, END, END, END), 1000, 1000)])
        self.assertEqual(land.height(END, END), 2 * END + 2000)
        self.assertEqual(land.height(-END, END), 0)
        self.assertEqual(land.height(END, END - 1), 2 * END - 1)

    def test_refused(self):
        land = land_of(HILLS, 5, [("set", (0, 0, 1, 1), 3)])
        for x, z in ((FAR, 0), (0, FAR), (-FAR, 0), (0, -FAR), (True, 0), (0, False), (10 ** 29, 0)):
            with self.subTest(x=x, z=z), self.assertRaises(NoPoint):
                land.height(x, z)

    def test_what_was_asked_ahead_doesnt_matter(self):
        edits = [("raise", (0, 0, 9, 9), 5), ("copy", (2, 2, 12, 12), 3, 3)]
        land = land_of(HILLS, 5, edits)
        land.tile(2, 0, 0)
        land.bounds((0, 0, 30, 30))
        self.assertEqual(land.height(4, 4), plain_height(HILLS, 5, edits, 4, 4))
        self.assertEqual(land.height(x=4, z=5), plain_height(HILLS, 5, edits, 4, 5))


class Made(unittest.TestCase):
    def test_as_handed_in(self):
        land = Land(HILLS, 77)
        self.assertEqual(land.rules(), HILLS)
        self.assertEqual(land.seed(), 77)
        land.edit(("set", (0, 0, 1, 1), 3))
        self.assertEqual((land.rules(), land.seed()), (HILLS, 77))
        self.assertEqual(Land(seed=77, rules=HILLS), Land(HILLS, 77))

    def test_memory(self):
        self.assertEqual(MEMORY, 64)
        for memory in (0, 1, 64, 1000):
            self.assertEqual(Land(HILLS, 1, memory=memory).height(3, 4), Land(HILLS, 1).height(3, 4))
        for memory in (-1, 1001, 10 ** 20, -10 ** 20, True):
            with self.subTest(memory=memory), self.assertRaises(NoCount):
                Land(HILLS, 1, memory=memory)

    def test_memory_by_its_name_alone(self):
        with self.assertRaises(TypeError):
            Land(HILLS, 1, 64)

    def test_rules_are_looked_at_first(self):
        for memory in (64, -1, 1001):
            with self.assertRaises(NoRules) as caught:
                Land(("plus", ("x",), ("nope",)), 1, memory=memory)
            self.assertEqual((caught.exception.path, caught.exception.why), ((2,), "kind"))


class Alike(unittest.TestCase):
    def setUp(self):
        self.edits = [("set", (0, 0, 4, 4), 3), ("raise", (1, 1, 9, 9), 2)]
        self.land = land_of(HILLS, 5, self.edits)

    def test_rules_seed_and_edits(self):
        self.assertTrue(self.land == land_of(HILLS, 5, self.edits))
        self.assertFalse(self.land != land_of(HILLS, 5, self.edits))
        self.assertFalse(self.land == land_of(HILLS, 6, self.edits))
        self.assertFalse(self.land == land_of(("x",), 5, self.edits))
        self.assertFalse(self.land == land_of(HILLS, 5, self.edits[:1]))
        self.assertFalse(self.land == land_of(HILLS, 5, self.edits[::-1]))
        self.assertFalse(self.land == land_of(HILLS, 5, []))
        self.assertTrue(Land(HILLS, 5) == Land(HILLS, 5))

    def test_numbers_deeds_and_memory_are_not_looked_at(self):
        other = Land(HILLS, 5, memory=0)
        other.edit(("set", (0, 0, 0, 0), 1))
        other.drop(1)
        for edit in self.edits:
            other.edit(edit)
        self.assertEqual([number for number, _ in other.edits()], [2, 3])
        self.assertTrue(self.land == other)
        self.assertFalse(self.land != other)

    def test_rules_that_tell_the_same_arent_the_same(self):
        self.assertFalse(Land(("whole", 2), 5) == Land(("plus", ("whole", 1), ("whole", 1)), 5))
        self.assertFalse(land_of(HILLS, 5, [("set", (0, 0, 1, 1), 3)]) ==
                         land_of(HILLS, 5, [("field", (0, 0, 1, 1), ("whole", 3))]))

    def test_no_other_thing(self):
        for other in (None, 3, "land", HILLS, (HILLS, 5), [], self.land.edits(), object()):
            self.assertFalse(self.land == other)
            self.assertTrue(self.land != other)
            self.assertFalse(other == self.land)


class Truth(unittest.TestCase):
    def test_len_is_how_many_edits_stand(self):
        land = Land(HILLS, 5)
        self.assertEqual(len(land), 0)
        self.assertFalse(land)
        for many in (1, 2, 3):
            land.edit(("set", (0, 0, 1, 1), 3))
            self.assertEqual(len(land), many)
            self.assertTrue(land)
        land.drop(2)
        self.assertEqual(len(land), 2)
        land.drop(1)
        land.drop(3)
        self.assertEqual(len(land), 0)
        self.assertFalse(land)
        land.back()
        self.assertTrue(land)


if __name__ == "__main__":
    unittest.main()
