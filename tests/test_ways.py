"""Point 18: routes, their marks, and the looker."""

import copy
import unittest

from landweave.errors import NoBox, NoCount, NoPoint
from landweave.land import Land
from landweave.ways import price_by_blocks, prices, route, shows_route
from tests.helper import Chance
from tests.plain_ground import beside, ground_of, plain_prices, rows_of, step_price
from tests.test_land import HILLS, land_of

END = 10 ** 6
FLAT = ("whole", 5)
BOX = (0, 0, 19, 19)


def comb(wide, deep, height=1000):
    """A flat land with walls across a box from (0, 0) on, each with a gap at the other end than the one before."""
    walls = [("set", (x, 0, x, deep - 2) if at % 2 else (x, 1, x, deep - 1), height)
             for at, x in enumerate(range(1, wide - 1, 2))]
    return land_of(FLAT, 1, walls)


class Ways(unittest.TestCase):
    def look(self, land, box, one, other, weight):
        """A route held against the heights and against the least price that a plain search finds."""
        told = route(land, box, one, other, weight=weight)
        word, points, price, marks = told
        ground = ground_of(land, box)
        self.assertEqual((type(told), word, type(points)), (tuple, "route", list))
        self.assertEqual((points[0], points[-1]), (one, other))
        for point, ahead in zip(points, points[1:]):
            self.assertTrue(ahead in ground and ahead in beside(point))
        self.assertEqual(price, sum(step_price(ground, *pair, weight) for pair in zip(points, points[1:])))
        self.look_at_marks(ground, box, one, other, weight, price, marks)
        least = plain_prices(ground, one, weight)
        self.assertEqual(price, least[other])
        self.assertEqual(prices(land, box, one, weight=weight), rows_of(box, least))
        self.assertIs(shows_route(land, box, one, other, told, weight=weight), True)
        return told

    def look_at_marks(self, ground, box, one, other, weight, price, marks):
        wide, deep = box[2] - box[0] + 1, box[3] - box[1] + 1
        self.assertEqual((type(marks), {type(row) for row in marks}), (list, {list}))
        self.assertEqual([len(row) for row in marks], [wide] * deep)
        found = {(x, z): marks[z - box[1]][x - box[0]] for x, z in ground}
        self.assertEqual((found[one], found[other]), (0, price))
        for point in ground:
            for ahead in beside(point):
                if ahead in ground:
                    self.assertLessEqual(found[ahead], found[point] + step_price(ground, point, ahead, weight))

    def test_on_flat_land(self):
        for one, other in (((0, 0), (4, 6)), ((4, 0), (0, 6)), ((2, 3), (2, 3)), ((2, 3), (2, 4)), ((3, 3), (2, 3))):
            told = self.look(Land(FLAT, 1), (0, 0, 4, 6), one, other, 7)
            self.assertEqual(told[2], abs(one[0] - other[0]) + abs(one[1] - other[1]))

    def test_to_itself(self):
        told = self.look(Land(("x",), 1), (0, 0, 2, 1), (1, 1), (1, 1), 1)
        self.assertEqual(told[1:3], ([(1, 1)], 0))

    def test_rows_of_marks_are_for_each_z(self):
        self.assertEqual(prices(Land(FLAT, 1), (0, 10, 2, 11), (0, 10)), [[0, 1, 2], [1, 2, 3]])
        self.assertEqual(prices(Land(("x",), 1), (0, 10, 2, 11), (0, 10), weight=10), [[0, 11, 22], [1, 12, 23]])
        self.assertEqual(prices(Land(("x",), 1), (0, 10, 2, 11), (2, 11), weight=10), [[3, 2, 1], [2, 1, 0]])

    def test_up_costs_and_down_doesnt(self):
        land = Land(("times", ("x",), ("whole", 3)), 1)
        for weight, up in ((0, 4), (1, 16), (1000, 12004)):
            self.assertEqual(route(land, (0, 0, 4, 0), (0, 0), (4, 0), weight=weight)[2], up)
            self.assertEqual(route(land, (0, 0, 4, 0), (4, 0), (0, 0), weight=weight)[2], 4)
        self.assertEqual(route(land, (0, 0, 4, 0), (0, 0), (4, 0))[2], 16)

    def test_over_hills(self):
        chance = Chance(300)
        for rules in (HILLS, ("over", ("noise", 3, 2), 4000), ("over", ("noise", 4, 0), 9000)):
            land = Land(rules, 7)
            for weight in (0, 1, 3, 1000):
                x, _, _, _ = box = chance.random.choice(((0, 0, 9, 9), (-7, -20, 3, -11), (5, 5, 17, 9)))
                one, other = ((chance.random.randint(x, box[2]), chance.random.randint(box[1], box[3])) for _ in "ab")
                self.look(land, box, one, other, weight)
                self.look(land, box, other, one, weight)

    def test_by_chance(self):
        chance = Chance(301)
        rules = chance.many_rules(20, 3)
        for first in rules:
            land = land_of(first, 7, chance.edits(chance.random.randint(0, 12), (-9, -9, 9, 9), rules))
            box = chance.part((-12, -12, 12, 12))
            box = (box[0], box[1], min(box[2], box[0] + 9), min(box[3], box[1] + 9))
            one, other = ((chance.random.randint(box[0], box[2]), chance.random.randint(box[1], box[3])) for _ in "ab")
            self.look(land, box, one, other, chance.random.choice((0, 1, 2, 1000)))

    def test_walls_gaps_and_ditches(self):
        wall, gap, ditch = ("set", (4, 0, 4, 8), 90), ("set", (4, 6, 4, 6), 5), ("set", (0, 3, 8, 3), -40)
        for edits in ([wall], [wall, gap], [wall, ditch], [ditch], [wall, gap, ditch], [ditch, wall, gap]):
            land = land_of(FLAT, 1, edits)
            for weight in (0, 1, 2, 1000):
                for one, other in (((0, 0), (8, 8)), ((8, 8), (0, 0)), ((3, 0), (5, 0)), ((4, 0), (0, 3))):
                    self.look(land, (0, 0, 8, 8), one, other, weight)
        self.assertEqual(route(land_of(FLAT, 1, [wall, gap]), (0, 0, 8, 8), (3, 0), (5, 0))[2], 14)
        self.assertEqual(route(land_of(FLAT, 1, [wall, gap]), (0, 0, 8, 8), (3, 0), (5, 0), weight=0)[2], 2)
        self.assertEqual(route(land_of(FLAT, 1, [wall]), (0, 0, 8, 8), (3, 0), (5, 0))[2], 87)

    def test_through_a_comb(self):
        land = comb(11, 9)
        told = self.look(land, (0, 0, 10, 8), (0, 0), (10, 0), 1)
        self.assertEqual(told[2], 10 + 4 * 8)

    def test_boxes(self):
        land = Land(HILLS, 7)
        for box in ((5, 5, 5, 5), (0, 3, 30, 3), (3, -30, 3, 0), (0, 0, 3, 1), (-2, -2, 1, 3)):
            corners = [(x, z) for x in box[0::2] for z in box[1::2]]
            for one in corners:
                for other in corners:
                    self.look(land, box, one, other, 2)
        for box in (BOX, (0, 0, 399, 0), (7, -100, 7, 299), (0, 0, 4, 79)):
            one, other = (box[0], box[1]), (box[2], box[3])
            self.look(land, box, one, other, 2)
            for more in ((*box[:2], box[2] + 1, box[3]), (*box[:3], box[3] + 1), (*box[:2], box[2] + 90, box[3] + 90)):
                for ask in (lambda: route(land, more, one, other), lambda: prices(land, more, one),
                            lambda: price_by_blocks(land, more, one, other),
                            lambda: shows_route(land, more, one, other, ("route", [one], 0, [[0]]))):
                    with self.subTest(box=more), self.assertRaises(NoBox):
                        ask()

    def test_at_the_ends_of_the_land(self):
        land = land_of(HILLS, 7, [("set", (END - 3, -END, END - 3, 0), 99)])
        for box in ((END - 5, -END, END, 3 - END), (-END, END - 4, 5 - END, END)):
            for one in ((box[0], box[1]), (box[2], box[3]), (box[0], box[3])):
                self.look(land, box, one, (box[2], box[1]), 2)

    def test_weights(self):
        land, one, other = Land(HILLS, 7), (0, 0), (9, 9)
        told = ("route", [one], 0, [[0]])
        self.assertEqual(route(land, BOX, one, other), route(land, BOX, one, other, weight=1))
        for weight in (0, 1, 1000):
            self.assertEqual(route(land, BOX, one, one, weight=weight)[2], 0)
        for weight in (-1, 1001, 10 ** 29, -10 ** 29, True, False):
            for ask in (lambda: route(land, BOX, one, other, weight=weight),
                        lambda: prices(land, BOX, one, weight=weight),
                        lambda: price_by_blocks(land, BOX, one, other, weight=weight),
                        lambda: price_by_blocks(land, BOX, one, other, weight=weight, side=0),
                        lambda: shows_route(land, BOX, one, other, told, weight=weight)):
                with self.subTest(weight=weight), self.assertRaises(NoCount):
                    ask()

    def test_points_that_are_none(self):
        land, good = Land(HILLS, 7), (3, 3)
        for bad in ((20, 3), (-1, 3), (3, 20), (3, -1), (END + 1, 3), (3, 10 ** 29), (True, 3), (3, True), (3,), None):
            for one, other in ((bad, good), (good, bad), (bad, bad)):
                for weight in (1, -1):
                    for ask in (lambda: route(land, BOX, one, other, weight=weight),
                                lambda: price_by_blocks(land, BOX, one, other, weight=weight, side=0),
                                lambda: shows_route(land, BOX, one, other, ("route", [], 0, []), weight=weight)):
                        with self.subTest(one=one, other=other), self.assertRaises(NoPoint):
                            ask()
            with self.subTest(one=bad), self.assertRaises(NoPoint):
                prices(land, BOX, bad, weight=-1)

    def test_boxes_that_are_none_come_first(self):
        land, bad = Land(HILLS, 7), (99, 99)
        for box in ((1, 0, 0, 0), (0, 1, 0, 0), (0, 0, END + 1, 0), (0, 0, 20, 19), (True, 0, 3, 3), (10 ** 29,) * 4):
            for ask in (lambda: route(land, box, bad, bad, weight=-1), lambda: prices(land, box, bad, weight=-1),
                        lambda: price_by_blocks(land, box, bad, bad, weight=-1, side=0),
                        lambda: shows_route(land, box, bad, bad, ("route", [], 0, []), weight=-1)):
                with self.subTest(box=box), self.assertRaises(NoBox) as caught:
                    ask()
                self.assertIs(type(caught.exception), NoBox)

    def test_by_names(self):
        land = Land(HILLS, 7)
        told = route(land, BOX, (0, 0), (5, 5), weight=2)
        self.assertEqual(route(weight=2, other=(5, 5), one=(0, 0), box=BOX, land=land), told)
        self.assertIs(shows_route(told=told, weight=2, other=(5, 5), one=(0, 0), box=BOX, land=land), True)
        self.assertEqual(prices(weight=2, one=(0, 0), box=BOX, land=land), prices(land, BOX, (0, 0), weight=2))
        with self.assertRaises(TypeError):
            route(land, BOX, (0, 0), (5, 5), 2)


class Lookers(unittest.TestCase):
    box = (0, 0, 3, 2)

    def setUp(self):
        self.land = land_of(FLAT, 1, [("set", (1, 0, 1, 1), 9)])
        self.one, self.other = (0, 0), (3, 0)
        self.told = ("route", [(0, 0), (0, 1), (0, 2), (1, 2), (2, 2), (2, 1), (2, 0), (3, 0)], 7,
                     [[0, 5, 6, 7], [1, 6, 5, 6], [2, 3, 4, 5]])

    def shows(self, points, price, marks, word="route"):
        return shows_route(self.land, self.box, self.one, self.other, (word, points, price, marks))

    def test_what_is_so(self):
        _, points, price, marks = self.told
        self.assertIs(self.shows(points, price, marks), True)
        self.assertIs(self.shows([(0, 0), (1, 0), (2, 0), (3, 0)], 7, marks), True)
        # Marks may be less than the least prices, as long as no step leads too far up.
        for place, mark in (((1, 0), 4), ((1, 0), -100), ((0, 1), 0), ((2, 1), 4), ((0, 1), -90)):
            other = copy.deepcopy(marks)
            other[place[1]][place[0]] = mark
            self.assertIs(self.shows(points, price, other), self.holds(other), (place, mark))

    def holds(self, marks):
        ground = ground_of(self.land, self.box)
        return all(marks[b[1]][b[0]] <= marks[a[1]][a[0]] + step_price(ground, a, b, 1)
                   for a in ground for b in beside(a) if b in ground)

    def test_points_bent(self):
        _, points, price, marks = self.told
        for at in range(len(points)):
            self.assertIs(self.shows(points[:at] + points[at + 1:], price, marks), False)
            self.assertIs(self.shows(points[:at] + points[at:at + 1] + points[at:], price, marks), False)
            for other in ((3, 1), (-1, 0), (4, 0), (0, 3), (10 ** 29, 0), (1, 1)):
                self.assertIs(self.shows(points[:at] + [other] + points[at:], price, marks), False)
        for bent in ([], points[::-1], points[:1], points[1:3] + points[:1] + points[3:], [(0, 0), (3, 0)],
                     points + [(3, 1), (3, 0)], points[:2] + points[:2] + points[2:],
                     [(0, 0), (0, -1), (1, -1), (2, -1), (3, -1), (3, 0)], points + [(2, 0)], points[:-1] + [(3, 1)]):
            self.assertIs(self.shows(bent, price, marks), False, bent)
            self.assertIs(self.shows(bent, len(bent) - 1, marks), False, bent)

    def test_another_way_of_a_greater_price(self):
        _, points, _, marks = self.told
        longer = points[:-2] + [(3, 1), (3, 0)]
        self.assertIs(self.shows(longer, 7, marks), True)
        longest = points + [(2, 0), (3, 0)]
        self.assertIs(self.shows(longest, 9, marks), False)
        raised = copy.deepcopy(marks)
        raised[0][3] = 9
        self.assertIs(self.shows(longest, 9, raised), False)

    def test_a_way_to_another_end_of_the_same_price(self):
        land, box = Land(FLAT, 1), (0, 0, 4, 4)
        _, points, price, marks = route(land, box, (0, 0), (2, 2))
        self.assertIs(shows_route(land, box, (0, 0), (2, 2), ("route", points, price, marks)), True)
        for bent in ([(0, 0), (1, 0), (2, 0), (3, 0), (3, 1)], [(0, 0), (0, 1), (0, 2), (0, 3), (0, 4)],
                     [(0, 2), (0, 1), (0, 2), (1, 2), (2, 2)], [(4, 2), (3, 2), (4, 2), (3, 2), (2, 2)]):
            self.assertIs(shows_route(land, box, (0, 0), (2, 2), ("route", bent, price, marks)), False)

    def test_prices_bent(self):
        _, points, price, marks = self.told
        for bent in (price - 1, price + 1, 0, -price, 10 ** 29):
            self.assertIs(self.shows(points, bent, marks), False)
            other = copy.deepcopy(marks)
            other[0][3] = bent
            self.assertIs(self.shows(points, bent, other), False)
            self.assertIs(self.shows(points, price, other), False)

    def test_marks_bent(self):
        _, points, price, marks = self.told
        bent = [[], [[]], [[], [], []], marks[:-1], marks[1:], marks + [[0, 0, 0, 0]], marks + [[]], [[0]],
                [row[:-1] for row in marks], [row + [0] for row in marks], marks[:2] + [marks[2][:3]],
                marks[:2] + [marks[2] + [9]], [list(column) for column in zip(*marks)], marks[::-1],
                [row[::-1] for row in marks], [[0] * 4] * 3, [[7] * 4] * 3, [marks[0] + marks[1], [], marks[2]]]
        for other in bent:
            self.assertIs(self.shows(points, price, other), False, other)
        for z in range(3):
            for x in range(4):
                for by in (1, 3, 100, 10 ** 29):
                    other = copy.deepcopy(marks)
                    other[z][x] += by
                    self.assertIs(self.shows(points, price, other), False, (x, z, by))
        for x, z in ((0, 0), (3, 0)):
            other = copy.deepcopy(marks)
            other[z][x] -= 1
            self.assertIs(self.shows(points, price, other), False)

    def test_each_step_is_looked_at(self):
        land = Land(FLAT, 1)
        told = route(land, BOX, (0, 0), (19, 19))
        for x, z in ((1, 0), (0, 19), (19, 0), (10, 10), (18, 19), (5, 0), (0, 7)):
            for by in (1, 2):
                other = copy.deepcopy(told)
                other[3][z][x] += by
                self.assertIs(shows_route(land, BOX, (0, 0), (19, 19), other), False)

    def test_words_and_parts(self):
        _, points, price, marks = self.told
        for word in ("routes", "Route", "", "way", "holds"):
            self.assertIs(self.shows(points, price, marks, word), False)
        for told in ((), ("route",), ("route", points), ("route", points, price), self.told + (0,),
                     ("dry",), ("way", points), ("holds", points), ("runs", points)):
            self.assertIs(shows_route(self.land, self.box, self.one, self.other, told), False)

    def test_other_ends_weights_and_lands(self):
        for one, other in (((0, 1), (3, 0)), ((0, 0), (3, 1)), ((3, 0), (0, 0)), ((0, 0), (0, 0))):
            self.assertIs(shows_route(self.land, self.box, one, other, self.told), False)
        for weight in (0, 2):
            land = land_of(FLAT, 1, [("set", (1, 0, 1, 2), 6)])
            told = route(land, self.box, self.one, self.other)
            self.assertIs(shows_route(land, self.box, self.one, self.other, told), True)
            self.assertIs(shows_route(land, self.box, self.one, self.other, told, weight=weight), False)
        self.assertIs(shows_route(Land(FLAT, 1), self.box, self.one, self.other, self.told), False)
        self.assertIs(shows_route(self.land, (0, 0, 3, 3), self.one, self.other, self.told), False)

    def test_one_point(self):
        land, box, one = Land(FLAT, 1), (2, 2, 2, 2), (2, 2)
        self.assertIs(shows_route(land, box, one, one, ("route", [one], 0, [[0]])), True)
        for points, price, marks in (([], 0, [[0]]), ([one, one], 0, [[0]]), ([one], 1, [[0]]), ([one], 0, [[1]]),
                                     ([one], 1, [[1]]), ([one], 0, []), ([one], 0, [[]]), ([(2, 3)], 0, [[0]])):
            self.assertIs(shows_route(land, box, one, one, ("route", points, price, marks)), False)


if __name__ == "__main__":
    unittest.main()
