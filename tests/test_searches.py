"""Point 12: bounds of a land, tall, highest and their lookers."""

import unittest

from landweave.errors import NoBox
from landweave.land import Land
from landweave.squares import highest, shows_highest, shows_tall, tall
from tests.helper import Chance, plain_height, points_in, within_calls
from tests.test_land import HILLS, land_of

END = 10 ** 6
ALL = (-END, -END, END, END)
NO_BOXES = ((1, 0, 0, 0), (0, 1, 0, 0), (0, 0, END + 1, 0), (0, -END - 1, 0, 0), (0, True, 1, 1), (10 ** 29,) * 4)


def inside(box, part):
    return box[0] <= part[0] <= part[2] <= box[2] and box[1] <= part[1] <= part[3] <= box[3]


def apart(one, other):
    return one[2] < other[0] or other[2] < one[0] or one[3] < other[1] or other[3] < one[1]


class Bounds(unittest.TestCase):
    def within(self, land, box, part):
        low, high = land.bounds(box)
        least, most = land.bounds(part)
        self.assertTrue(low <= least <= most <= high, (box, part, land.edits()))

    def test_each_height_lies_between(self):
        chance = Chance(120)
        rules = chance.many_rules(20, 3)
        for many in (0, 1, 2, 3, 6, 12, 40):
            for _ in range(8):
                edits = chance.edits(many, (-30, -30, 30, 30), rules)
                first = chance.random.choice(rules)
                land = land_of(first, 6, edits)
                box = chance.part((-40, -40, 40, 40))
                low, high = land.bounds(box)
                for _ in range(20):
                    x, z, _, _ = chance.part(box)
                    self.assertTrue(low <= plain_height(first, 6, edits, x, z) <= high)
                    self.assertEqual(land.bounds((x, z, x, z)), (land.height(x, z),) * 2)
                    part = chance.part(box)
                    self.within(land, box, part)
                    self.within(land, part, chance.part(part))

    def test_cut_into_halves_down_to_a_point(self):
        chance = Chance(121)
        rules = chance.many_rules(20, 3)
        for first in rules:
            land = land_of(first, 6, chance.edits(10, (-999, -999, 999, 999), rules) +
                           [("copy", ALL, 500, -1000), ("copy", (0, -END, END, END), -1000, 3)])
            box = ALL
            while box[0] < box[2] or box[1] < box[3]:
                middle = (box[0] + box[2]) // 2, (box[1] + box[3]) // 2
                part = (box[0], box[1], *middle) if chance.random.random() < 0.5 else (
                    min(middle[0] + 1, box[2]), min(middle[1] + 1, box[3]), box[2], box[3])
                self.within(land, box, part)
                box = part
            self.assertEqual(land.bounds(box), (land.height(box[0], box[1]),) * 2)

    def test_edits_of_the_whole_box(self):
        box = (0, 0, 9, 9)
        for edit, told in ((("set", box, 7), (7, 7)), (("raise", box, 7), (7, 16)), (("least", box, 4), (4, 9)),
                           (("most", box, 4), (0, 4)), (("field", box, ("z",)), (0, 9)),
                           (("copy", box, 100, 3), (100, 109)), (("set", (20, 20, 30, 30), 999), (0, 9))):
            self.assertEqual(land_of(("x",), 1, [edit]).bounds(box), told, edit)

    def test_edits_of_a_part_of_it(self):
        box, part = (0, 0, 9, 9), (3, 3, 5, 12)
        for edit in (("set", part, 700), ("set", part, -700), ("raise", part, -700), ("least", part, 700),
                     ("most", part, -700), ("field", part, ("whole", 700)), ("copy", part, 700, 3)):
            land = land_of(("x",), 1, [edit])
            low, high = land.bounds(box)
            heights = [land.height(x, z) for x, z in points_in(box)]
            self.assertTrue(low <= min(heights) and max(heights) <= high, edit)
            self.assertEqual(land.bounds((6, 0, 9, 9)), (6, 9))

    def test_what_a_part_reads_from_afar(self):
        for at, rules in ((0, ("x",)), (1, ("z",))):
            for by in (-500, 500):
                for other in (-300, 0, 300):
                    shift = (by, other) if at == 0 else (other, by)
                    for part in ((0, 100, 4, 119), (3, 95, 30, 104), (19, 119, 19, 119)):
                        land = land_of(rules, 1, [("copy", part, *shift)])
                        box = (0, 100, 19, 119)
                        low, high = land.bounds(box)
                        heights = [land.height(x, z) for x, z in points_in(box)]
                        self.assertTrue(low <= min(heights) and max(heights) <= high)
                        self.within(land, box, (0, 100, 3, 103))

    def test_copies_of_copies(self):
        box = (0, 0, 63, 63)
        for shifts in ([(3, 5)] * 16, [(0, 0)] * 16, [(2 ** (at % 10), -at) for at in range(60)],
                       [(1000, 999), (-1000, 1000)] * 30):
            for place in (box, ALL, (-END, 0, 31, END), (5, 5, 40, 70)):
                land = land_of(HILLS, 6, [("copy", place, dx, dz) for dx, dz in shifts])
                with within_calls(200000):
                    for asked in (box, ALL, (10, 10, 20, 90), (31, 31, 32, 32)):
                        self.within(land, asked, (max(asked[0], 12), max(asked[1], 12), asked[2], asked[3]))
                    low, high = land.bounds(box)
                    for x, z in ((0, 0), (31, 40), (32, 5), (63, 63)):
                        self.assertTrue(low <= land.height(x, z) <= high)

    def test_many_boxes_one_over_the_other(self):
        chance = Chance(122)
        edits = [(word, chance.part((-500, -500, 500, 500)), dx, 3)[:3 + (word == "copy")]
                 for at in range(60) for word, dx in ((("copy", at - 30), ("raise", at), ("least", at))[at % 3],)]
        land = land_of(HILLS, 6, edits)
        with within_calls(200000):
            for _ in range(100):
                box = chance.part((-500, -500, 500, 500))
                self.within(land, box, chance.part(box))

    def test_refused(self):
        land = Land(HILLS, 1)
        for box in NO_BOXES + ([0, 0, 1, 1], (0, 0, 1), None):
            with self.subTest(box=box), self.assertRaises(NoBox):
                land.bounds(box)
        self.assertEqual(Land(("x",), 1).bounds(box=ALL), (-END, END))


class Searches(unittest.TestCase):
    def lands(self, many):
        chance = Chance(123)
        rules = chance.many_rules(10, 3) + [HILLS, ("whole", 3), ("x",), ("z",)]
        for at in range(many):
            edits = chance.edits(at % 7, (-60, -60, 60, 60), rules)
            box = chance.part((-70, -70, -7, -7)) if at % 3 else (-70, -70, -7, -7)
            yield land_of(rules[at % len(rules)], 4, edits), box

    def passed_rightly(self, land, box, passed):
        self.assertEqual(passed, sorted(passed))
        for at, part in enumerate(passed):
            self.assertIs(type(part), tuple)
            self.assertTrue(inside(box, part))
            self.assertTrue(all(apart(part, other) for other in passed[:at]))

    def test_tall(self):
        for land, box in self.lands(40):
            heights = {point: land.height(*point) for point in points_in(box)}
            steps = sorted(heights.values())
            for least in (steps[0], steps[-1], steps[-1] + 1, steps[len(steps) * 9 // 10]):
                told = tall(land, box, least=least)
                self.assertEqual(told[0], "tall")
                self.assertEqual(told[1], sorted(point for point in heights if heights[point] >= least))
                self.passed_rightly(land, box, told[2])
                self.assertTrue(all(land.bounds(part)[1] < least for part in told[2]))
                self.assertIs(shows_tall(land, box, told, least=least), True)

    def test_highest(self):
        for land, box in self.lands(60):
            heights = {point: land.height(*point) for point in points_in(box)}
            most = max(heights.values())
            told = highest(land, box)
            self.assertEqual(told[:3], ("highest", min(point for point in heights if heights[point] == most), most))
            self.passed_rightly(land, box, told[3])
            for part in told[3]:
                high = land.bounds(part)[1]
                self.assertTrue(high < most or high == most and told[1] < part[:2])
            self.assertIs(shows_highest(land, box, told), True)

    def test_boxes_are_passed_by(self):
        land = land_of(("x",), 1, [("raise", (0, 0, 0, 0), 900)])
        self.assertTrue(tall(land, (0, 0, 63, 63), least=60)[2])
        self.assertTrue(highest(land, (0, 0, 63, 63))[3])
        self.assertEqual(tall(land, (0, 0, 63, 63), least=60)[1],
                         [(0, 0)] + [(x, z) for x in (60, 61, 62, 63) for z in range(64)])
        self.assertEqual(tall(land, (0, 0, 63, 63), least=10 ** 29)[1:], ([], [(0, 0, 63, 63)]))
        flat = Land(("whole", 5), 1)
        self.assertEqual(highest(flat, (-3, -3, 60, 60))[:3], ("highest", (-3, -3), 5))

    def test_as_high_ahead_of_what_may_be_higher(self):
        # The later box may be as high as 20 by its bounds, and is 5; the one ahead is 5 and can't be more.
        flat = ("plus", ("whole", 5), ("less", ("x",), ("x",)))
        land = land_of(("whole", 0), 1, [("set", (16, 0, 31, 15), 5), ("field", (48, 48, 63, 63), flat)])
        self.assertGreater(land.bounds((48, 48, 63, 63))[1], 5)
        self.assertEqual(highest(land, (0, 0, 63, 63))[:3], ("highest", (16, 0), 5))
        land.drop(1)
        self.assertEqual(highest(land, (0, 0, 63, 63))[:3], ("highest", (48, 48), 5))

    def test_small_and_long_boxes(self):
        land = Land(HILLS, 1)
        for box in ((3, 4, 3, 4), (0, 0, 4095, 0), (0, 0, 0, 4095), (0, 0, 1, 2047), (END, END, END, END)):
            heights = {point: land.height(*point) for point in points_in(box)}
            most = max(heights.values())
            self.assertEqual(highest(land, box)[1], min(point for point in heights if heights[point] == most))
            self.assertEqual(tall(land, box, least=most)[1], [p for p in sorted(heights) if heights[p] == most])

    def test_refused(self):
        land = Land(HILLS, 1)
        great = ((0, 0, 64, 63), (0, 0, 4096, 0), (0, 0, 0, 4096), ALL)
        for box in NO_BOXES + great + ((0, 0, 1), None):
            for asked in (lambda: tall(land, box, least=3), lambda: highest(land, box),
                          lambda: shows_tall(land, box, ("tall", [], []), least=3),
                          lambda: shows_highest(land, box, ("highest", (0, 0), 3, []))):
                with self.subTest(box=box), self.assertRaises(NoBox):
                    asked()
        for box in ((100, -50, 164, 13), (100, -50, 163, 14), (-999, 3000, -999, 7096), (3000, -999, 7096, -999)):
            with self.subTest(box=box), self.assertRaises(NoBox):
                highest(land, box)
        for box in ((100, -50, 163, 13), (-999, 3000, -999, 7095), (3000, -999, 7095, -999)):
            self.assertIs(shows_highest(land, box, highest(land, box)), True)
        self.assertEqual(tall(land=land, box=(0, 0, 1, 1), least=0), tall(land, (0, 0, 1, 1), least=0))
        self.assertEqual(highest(box=(0, 0, 1, 1), land=land), highest(land, (0, 0, 1, 1)))


class LookersOfTall(unittest.TestCase):
    def setUp(self):
        # Heights are 0 to 9 by x, and 50 at (2, 3).
        self.land = land_of(("x",), 1, [("set", (2, 3, 2, 3), 50)])
        self.box = (0, 0, 9, 9)
        self.points = [(2, 3)] + [(x, z) for x in (8, 9) for z in range(10)]

    def shows(self, told, least=8):
        return shows_tall(self.land, self.box, told, least=least)

    def test_told_so(self):
        for passed in ([], [(0, 0, 0, 0)], [(0, 0, 1, 9), (3, 0, 7, 9)], [(3, 0, 5, 9), (6, 0, 7, 4)],
                       [(0, 0, 9, 9)][:0]):
            self.assertIs(self.shows(("tall", self.points, passed)), True)

    def test_points_that_arent_so(self):
        points = self.points
        for bent in (points[1:], points[:-1], points[:5] + points[6:], points[::-1], points + [(9, 10)],
                     [(0, 0)] + points, points[:1] + points, [points[1], points[0]] + points[2:], [],
                     points + [(9, 9)], points[:-1] + [(9, 8)]):
            self.assertIs(self.shows(("tall", bent, [])), False)
        self.assertIs(self.shows(("tall", self.points, []), least=7), False)
        self.assertIs(self.shows(("tall", self.points, []), least=9), False)

    def test_boxes_that_arent_so(self):
        good = [(0, 0, 1, 9), (3, 0, 7, 9)]
        for bent in (good[::-1], good + good[:1], [good[0], good[0]], [(0, 0, 1, 9), (1, 0, 1, 0)],
                     [(0, 0, 2, 9)], [(8, 0, 9, 9)], [(-1, 0, 1, 9)], [(0, 0, 1, 10)], [(1, 0, 0, 9)],
                     [(0, 9, 1, 0)], [(3, 0, 8, 0)], [(10, 10, 11, 11)], [(10 ** 29, 0, 10 ** 29, 0)],
                     [(3, 0, 5, 9), (5, 9, 7, 9)], [(-10 ** 29, 0, 1, 0)]):
            self.assertIs(self.shows(("tall", self.points, bent)), False, bent)

    def test_other_words(self):
        for word in ("highest", "Tall", "", "apart"):
            self.assertIs(self.shows((word, self.points, [])), False)
        self.assertIs(self.shows(("highest", (2, 3), 50, [])), False)


class LookersOfHighest(unittest.TestCase):
    def setUp(self):
        # Heights are 0 to 9 by z, so the first highest is (0, 9).
        self.land = Land(("z",), 1)
        self.box = (0, 0, 9, 9)

    def shows(self, *told):
        return shows_highest(self.land, self.box, told)

    def test_told_so(self):
        for passed in ([], [(0, 0, 0, 8)], [(0, 0, 0, 8), (1, 0, 9, 9)], [(1, 9, 9, 9)], [(0, 0, 9, 8)]):
            self.assertIs(self.shows("highest", (0, 9), 9, passed), True, passed)

    def test_what_isnt_so(self):
        for point, height in (((1, 9), 9), ((0, 8), 8), ((0, 9), 8), ((0, 9), 10), ((0, 10), 10), ((-1, 9), 9),
                              ((10 ** 29, 9), 9), ((9, 0), 9)):
            self.assertIs(self.shows("highest", point, height, []), False)

    def test_boxes_that_arent_so(self):
        for bent in ([(0, 0, 0, 9)], [(0, 9, 0, 9)], [(0, 0, 1, 9)], [(1, 0, 9, 9), (0, 0, 0, 8)],
                     [(1, 0, 5, 9), (5, 9, 9, 9)], [(1, 0, 10, 9)], [(0, -1, 0, 8)], [(0, 8, 0, 0)],
                     [(1, 0, 9, 9), (1, 0, 9, 9)], [(3, 3, 2, 4)], [(0, 0, 0, 10 ** 29)]):
            self.assertIs(self.shows("highest", (0, 9), 9, bent), False, bent)

    def test_a_bound_as_high_behind_the_point_alone(self):
        land = land_of(("whole", 3), 1, [("set", (0, 0, 4, 9), 1)])
        self.assertIs(shows_highest(land, self.box, ("highest", (5, 0), 3, [(5, 1, 9, 9)])), True)
        self.assertIs(shows_highest(land, self.box, ("highest", (5, 0), 3, [(0, 0, 4, 9), (5, 1, 5, 9)])), True)
        self.assertIs(shows_highest(land, self.box, ("highest", (5, 0), 3, [(5, 0, 9, 9)])), False)
        self.assertIs(shows_highest(land, self.box, ("highest", (5, 0), 3, [(4, 0, 5, 0)])), False)
        # This box has no point as high, but a bound as high, and begins ahead of the point.
        low, high = land.bounds((4, 8, 4, 9))
        self.assertEqual((low, high), (1, 1))

    def test_other_words(self):
        for word in ("tall", "", "Highest"):
            self.assertIs(self.shows(word, (0, 9), 9, []), False)
        self.assertIs(self.shows("tall", [(0, 9)], []), False)


if __name__ == "__main__":
    unittest.main()
