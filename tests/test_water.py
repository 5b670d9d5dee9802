"""Point 19: water poured at a spring, the looker, and the greatest level at which it doesn't run out."""

import copy
import unittest

from landweave.errors import NoBox, NoPoint
from landweave.land import Land
from landweave.water import least_level, poured, shows_poured
from tests.helper import Chance
from tests.plain_ground import at_edge, beside, ground_of, plain_poured
from tests.test_land import HILLS, land_of

END = 10 ** 6
BOX = (0, 0, 8, 8)
HIGH = 10 ** 30 - 1


def basin(*edits):
    """A flat land of height 10 with a hollow of height 0 from (2, 2) to (6, 6), and edits over it."""
    return land_of(("whole", 10), 1, [("set", (2, 2, 6, 6), 0), *edits])


class Water(unittest.TestCase):
    def look(self, land, box, spring, level):
        told = poured(land, box, spring, level)
        ground = ground_of(land, box)
        true = plain_poured(ground, box, spring, level)
        self.assertEqual((type(told), told[0]), (tuple, true[0]))
        if told[0] == "runs":
            points = told[1]
            self.assertEqual((type(points), len(points), points[0]), (list, true[1], spring))
            self.assertTrue(at_edge(box, points[-1]))
            self.assertTrue(all(ground.get(point, level) < level for point in points))
            self.assertTrue(all(ahead in beside(point) for point, ahead in zip(points, points[1:])))
        else:
            self.assertEqual(told, true)
        self.assertIs(shows_poured(land, box, spring, level, told), True)
        self.assertEqual(poured(land, box, spring, level), told)
        return told[0]

    def test_levels_about_a_basin(self):
        land, lake = basin(), [(x, z) for x in range(2, 7) for z in range(2, 7)]
        for level, told in ((-5, ("dry",)), (0, ("dry",)), (1, ("holds", lake)), (10, ("holds", lake))):
            self.assertEqual(poured(land, BOX, (4, 4), level), told)
        for level in (-HIGH, -1, 0, 1, 9, 10, 11, 12, HIGH):
            for spring in ((4, 4), (2, 2), (3, 6), (1, 1), (0, 4), (8, 8), (7, 3)):
                self.look(land, BOX, spring, level)
        told = poured(land, BOX, (4, 4), 11)
        self.assertEqual((told[0], len(told[1])), ("runs", 5))

    def test_springs_at_the_edge(self):
        land = basin()
        for spring in ((0, 0), (0, 4), (8, 3), (5, 8), (5, 0)):
            self.assertEqual(poured(land, BOX, spring, 10), ("dry",))
            self.assertEqual(poured(land, BOX, spring, 11), ("runs", [spring]))
            self.assertEqual(least_level(land, BOX, spring), 10)
        self.assertEqual(poured(land, (2, 2, 6, 6), (2, 4), 1), ("runs", [(2, 4)]))
        self.assertEqual(poured(land, (2, 2, 6, 6), (3, 4), 1), ("runs", [(3, 4), (2, 4)]))

    def test_several_lakes_of_which_one_holds_the_spring(self):
        land = basin(("set", (4, 2, 4, 6), 10))
        left, right = ([(x, z) for x in xs for z in range(2, 7)] for xs in ((2, 3), (5, 6)))
        self.assertEqual(poured(land, BOX, (2, 5), 10), ("holds", left))
        self.assertEqual(poured(land, BOX, (6, 2), 10), ("holds", right))
        self.assertEqual(poured(land, BOX, (4, 4), 10), ("dry",))
        # Corners alone don't hold together, and a gap joins both.
        self.assertEqual(poured(basin(("set", (4, 2, 4, 6), 10), ("set", (4, 4, 4, 4), 5)), BOX, (2, 5), 5),
                         ("holds", left))
        self.assertEqual(poured(basin(("set", (4, 2, 4, 6), 10), ("set", (4, 4, 4, 4), 5)), BOX, (2, 5), 6),
                         ("holds", left + [(4, 4)] + right))
        self.assertEqual(poured(land_of(("whole", 9), 1, [("set", (2, 2, 2, 2), 0), ("set", (3, 3, 3, 3), 0)]),
                                BOX, (2, 2), 5), ("holds", [(2, 2)]))

    def test_a_way_out_by_a_gap(self):
        land = basin(("set", (4, 6, 4, 8), 3), ("set", (1, 2, 1, 2), 3))
        self.assertEqual(least_level(land, BOX, (2, 2)), 3)
        self.assertEqual(poured(land, BOX, (2, 2), 3)[0], "holds")
        told = poured(land, BOX, (2, 2), 4)
        self.assertEqual((told[0], told[1][-1], len(told[1])), ("runs", (4, 8), 9))
        self.look(land, BOX, (2, 2), 4)

    def test_by_chance(self):
        chance = Chance(320)
        rules = chance.many_rules(12, 3) + [("over", ("noise", 4, 1), 5000), ("over", ("noise", 5, 0), 20000)] * 4
        seen = {"dry": 0, "holds": 0, "runs": 0}
        for first in rules:
            land = land_of(first, 7, chance.edits(chance.random.randint(0, 8), (-9, -9, 9, 9), rules))
            box = chance.part((-12, -12, 12, 12))
            ground = ground_of(land, box)
            for _ in range(8):
                inner = [point for point in ground if not at_edge(box, point)] or list(ground)
                spring = min(chance.random.sample(inner, min(len(inner), 5)), key=ground.get)
                most = least_level(land, box, spring)
                for level in (most, most + 1, ground[spring], ground[spring] + 1, chance.random.choice(list(ground.values()))):
                    seen[self.look(land, box, spring, level)] += 1
        self.assertGreater(min(seen.values()), 30, seen)

    def test_boxes(self):
        land = Land(HILLS, 7)
        for box in ((5, 5, 5, 5), (0, 0, 31, 31), (0, 0, 1023, 0), (0, -1000, 0, 23), (0, 0, 127, 7),
                    (END - 5, -END, END, 5 - END), (-END, END - 2, 2 - END, END)):
            spring = ((box[0] + box[2]) // 2, (box[1] + box[3]) // 2)
            most = least_level(land, box, spring)
            for level in (most, most + 1, land.height(*spring)):
                self.look(land, box, spring, level)
        for box in ((0, 0, 31, 32), (0, 0, 1024, 0), (0, 0, 0, 1024), (1, 0, 0, 0), (0, 1, 0, 0), (0, 0, END + 1, 0),
                    (0, True, 1, 1), (10 ** 29,) * 4):
            for spring in ((0, 0), (-1, -1), None):
                for ask in (lambda: poured(land, box, spring, 5), lambda: least_level(land, box, spring),
                            lambda: shows_poured(land, box, spring, 5, ("dry",))):
                    with self.subTest(box=box), self.assertRaises(NoBox):
                        ask()

    def test_springs_that_are_none(self):
        land = Land(HILLS, 7)
        for spring in ((9, 0), (-1, 0), (0, 9), (0, -1), (10 ** 29, 0), (True, 0), (0, False), (0,), None):
            for ask in (lambda: poured(land, BOX, spring, 5), lambda: least_level(land, BOX, spring),
                        lambda: shows_poured(land, BOX, spring, 5, ("dry",))):
                with self.subTest(spring=spring), self.assertRaises(NoPoint):
                    ask()

    def test_by_names(self):
        land = basin()
        told = poured(level=5, spring=(4, 4), box=BOX, land=land)
        self.assertEqual(told, poured(land, BOX, (4, 4), 5))
        self.assertIs(shows_poured(told=told, level=5, spring=(4, 4), box=BOX, land=land), True)
        self.assertEqual(least_level(spring=(4, 4), box=BOX, land=land), 10)


class Levels(unittest.TestCase):
    def test_at_it_and_one_more(self):
        for seed in range(12):
            for rules in (("over", ("noise", 4, 1), 5000), ("over", ("noise", 5, 0), 20000), ("noise", 6, 2)):
                land = Land(rules, seed)
                for spring in ((4, 4), (1, 7), (3, 2)):
                    most = least_level(land, BOX, spring)
                    self.assertIs(type(most), int)
                    self.assertNotEqual(poured(land, BOX, spring, most)[0], "runs")
                    self.assertEqual(poured(land, BOX, spring, most + 1)[0], "runs")

    def test_the_spring_counts_too(self):
        hill = land_of(("whole", 10), 1, [("set", (4, 4, 4, 4), 50)])
        self.assertEqual(least_level(hill, BOX, (4, 4)), 50)
        self.assertEqual(least_level(hill, BOX, (3, 4)), 10)
        self.assertEqual(least_level(hill, (4, 4, 4, 4), (4, 4)), 50)

    def test_rings_within_rings(self):
        land = land_of(("whole", 0), 1, [("set", (1, 1, 7, 7), 30), ("set", (2, 2, 6, 6), 0), ("set", (3, 3, 5, 5), 20),
                                         ("set", (4, 4, 4, 4), -9)])
        self.assertEqual([least_level(land, BOX, spring) for spring in ((4, 4), (3, 4), (2, 4), (1, 4), (0, 4))],
                         [30, 30, 30, 30, 0])
        land.edit(("set", (7, 2, 7, 2), 7))
        self.assertEqual([least_level(land, BOX, spring) for spring in ((4, 4), (3, 4), (2, 4), (1, 4), (0, 4))],
                         [20, 20, 7, 30, 0])

    def test_heights_below_zero(self):
        land = land_of(("whole", -50), 1, [("set", (2, 2, 6, 6), -90)])
        self.assertEqual(least_level(land, BOX, (4, 4)), -50)
        self.assertEqual(poured(land, BOX, (4, 4), -90), ("dry",))
        self.assertEqual(poured(land, BOX, (4, 4), -50)[0], "holds")


class Lookers(unittest.TestCase):
    def shows(self, level, *told, land=None, spring=(3, 3), box=BOX):
        return shows_poured(land or basin(), box, spring, level, told)

    def test_dry(self):
        self.assertIs(self.shows(0, "dry"), True)
        self.assertIs(self.shows(-7, "dry"), True)
        for level in (1, 10, 11):
            self.assertIs(self.shows(level, "dry"), False)
        for told in (("holds", []), ("holds", [(3, 3)]), ("runs", []), ("runs", [(3, 3)])):
            self.assertIs(self.shows(0, *told), False)

    def test_holds(self):
        lake = poured(basin(), BOX, (3, 3), 5)[1]
        self.assertIs(self.shows(5, "holds", lake), True)
        self.assertIs(self.shows(5, "holds", lake, spring=(6, 5)), True)
        for at in range(len(lake)):
            self.assertIs(self.shows(5, "holds", lake[:at] + lake[at + 1:]), False)
            self.assertIs(self.shows(5, "holds", lake[:at] + lake[at:at + 1] + lake[at:]), False)
            self.assertIs(self.shows(5, "holds", lake[at:] + lake[:at]), at == 0)
        for bent in ([], lake[::-1], lake + [(7, 2)], sorted(lake + [(1, 4)]), lake + [(10 ** 29, 0)], lake + lake):
            self.assertIs(self.shows(5, "holds", bent), False)
        for level in (0, 11):
            self.assertIs(self.shows(level, "holds", lake), False)
        self.assertIs(self.shows(5, "runs", lake), False)
        two = basin(("set", (4, 2, 4, 6), 10))
        self.assertIs(self.shows(5, "holds", lake, land=two), False)
        self.assertIs(self.shows(5, "holds", [point for point in lake if point[0] != 4], land=two), False)
        self.assertIs(self.shows(5, "holds", [point for point in lake if point[0] < 4], land=two), True)

    def test_runs(self):
        straight = [(3, 3), (2, 3), (1, 3), (0, 3)]
        self.assertIs(self.shows(11, "runs", straight), True)
        self.assertIs(self.shows(11, "runs", [(3, 3), (3, 2), (3, 1), (3, 0)]), True)
        for at in range(len(straight)):
            self.assertIs(self.shows(11, "runs", straight[:at] + straight[at + 1:]), False)
            self.assertIs(self.shows(11, "runs", straight[:at] + straight[at:at + 1] + straight[at:]), False)
        for bent in ([], straight[::-1], [(3, 3), (2, 2), (1, 1), (0, 0)], [(3, 3), (2, 3), (2, 2), (1, 2), (0, 2)],
                     [(3, 3), (2, 3), (1, 3), (1, 2)], [(3, 3), (2, 3), (3, 3), (2, 3)], straight + [(-1, 3)],
                     [(3, 3), (2, 3), (1, 3), (10 ** 29, 3)], [(4, 3), (3, 3), (2, 3), (1, 3)], [(2, 3), (1, 3), (0, 3)],
                     [(3, 3), (0, 3)], [(3, 3), (2, 3), (0, 3), (1, 3)], straight + [(0, 2)], [(0, 3)] * 4,
                     [(3, 3), (2, 3), (1, 3), (0, 4)], [(2, 3), (2, 3), (1, 3), (0, 3)]):
            self.assertIs(self.shows(11, "runs", bent), False, bent)
        for level in (10, 5, 0):
            self.assertIs(self.shows(level, "runs", straight), False)
        self.assertIs(self.shows(11, "holds", straight), False)
        self.assertIs(self.shows(11, "dry"), False)
        # A wall across the straight way leaves only others of as many points.
        self.assertIs(self.shows(11, "runs", straight, land=basin(("set", (1, 3, 1, 3), 11))), False)
        self.assertIs(self.shows(11, "runs", straight, land=basin(("set", (0, 3, 0, 3), 11))), False)
        self.assertIs(self.shows(11, "runs", [(3, 3), (3, 2), (3, 1), (3, 0)], land=basin(("set", (1, 3, 1, 3), 11))), True)

    def test_beyond_the_box(self):
        self.assertIs(self.shows(11, "runs", [(0, 3)], spring=(0, 3)), True)
        for bent in ([], [(0, 3), (-1, 3)], [(0, 4)], [(-1, 3)], [(0, 3), (0, 3)]):
            self.assertIs(self.shows(11, "runs", bent, spring=(0, 3)), False)
        # A way over a wall at the edge and out of the box is none, though it has as many points as the one that is.
        land, box = land_of(("whole", 10), 1, [("set", (0, 0, 5, 0), 99), ("set", (0, 0, 0, 5), 99)]), (0, 0, 5, 5)
        told = poured(land, box, (1, 1), 50)
        self.assertEqual((told[0], len(told[1])), ("runs", 5))
        for bent in ([(1, 1), (0, 1), (-1, 1), (-1, 2), (0, 2)], [(1, 1), (1, 0), (1, -1), (2, -1), (2, 0)]):
            self.assertIs(shows_poured(land, box, (1, 1), 50, ("runs", bent)), False)

    def test_words_and_parts(self):
        lake = poured(basin(), BOX, (3, 3), 5)[1]
        for word in ("hold", "Holds", "", "route", "way"):
            self.assertIs(self.shows(5, word, lake), False)
        for told in ((), ("holds",), ("runs",), ("holds", lake, 5), ("route", lake, 5, [[0]])):
            self.assertIs(shows_poured(basin(), BOX, (3, 3), 5, told), False)
        self.assertIs(shows_poured(basin(), BOX, (3, 3), 0, ("dry", [])), False)

    def test_what_is_looked_at_stays(self):
        told = poured(basin(), BOX, (3, 3), 5)
        kept = copy.deepcopy(told)
        self.shows(5, *told)
        self.shows(0, *told)
        self.assertEqual(told, kept)


if __name__ == "__main__":
    unittest.main()
