"""Points 18, 4 and 1: prices put together from blocks, and the border tables that a land keeps for them."""

import unittest
from unittest import mock

from landweave.errors import NoBox, NoCount, NoPoint
from landweave.land import Land
from landweave.ways import price_by_blocks, prices, prices_from, route
from tests.helper import Chance
from tests.plain_ground import ground_of, plain_prices
from tests.test_land import HILLS, land_of
from tests.test_ways import BOX, comb


class Blocks(unittest.TestCase):
    def test_of_each_side_through_combs(self):
        for wide, deep in ((20, 20), (19, 20), (13, 7), (5, 19)):
            land, box = comb(wide, deep), (0, 0, wide - 1, deep - 1)
            for one, other in (((0, 0), (wide - 1, deep - 1)), ((wide - 1, 0), (0, 0)), ((1, 3), (wide // 2, 2))):
                told = route(land, box, one, other)[2]
                self.assertEqual(told, plain_prices(ground_of(land, box), one, 1)[other])
                for side in range(1, 21):
                    self.assertEqual(price_by_blocks(land, box, one, other, side=side), told, side)
                self.assertEqual(price_by_blocks(land, box, one, other), told)

    def test_a_comb_makes_long_ways(self):
        self.assertEqual(price_by_blocks(comb(20, 20), BOX, (0, 0), (19, 0), side=3), 19 + 8 * 19)

    def test_walls_that_lead_out_of_a_block_and_back(self):
        # From (0, 0) to (0, 2) the way goes around by the block beside.
        land = land_of(("whole", 0), 1, [("set", (0, 1, 4, 1), 500)])
        for side in range(1, 9):
            self.assertEqual(price_by_blocks(land, (0, 0, 7, 7), (0, 0), (0, 2), side=side), 12)
            self.assertEqual(price_by_blocks(land, (0, 0, 4, 7), (0, 0), (0, 2), side=side), 502)
            self.assertEqual(price_by_blocks(land, (0, 0, 7, 7), (0, 0), (0, 2), weight=0, side=side), 2)

    def test_over_hills_and_edits(self):
        chance = Chance(310)
        rules = chance.many_rules(12, 3) + [("over", ("noise", 4, 1), 5000)] * 4
        for first in rules:
            land = land_of(first, 7, chance.edits(chance.random.randint(0, 8), (-9, -9, 9, 9), rules))
            box = chance.part((-12, -12, 12, 12))
            box = (box[0], box[1], min(box[2], box[0] + 11), min(box[3], box[1] + 11))
            one, other = ((chance.random.randint(box[0], box[2]), chance.random.randint(box[1], box[3])) for _ in "ab")
            for weight in (0, 1, 1000):
                least = plain_prices(ground_of(land, box), one, weight)[other]
                for side in (1, 2, 3, 4, 5, 7, 11, 20):
                    self.assertEqual(price_by_blocks(land, box, one, other, weight=weight, side=side), least)
                self.assertEqual(prices(land, box, one, weight=weight)[other[1] - box[1]][other[0] - box[0]], least)

    def test_each_point_of_a_box(self):
        land = Land(("over", ("noise", 4, 1), 5000), 3)
        box = (-3, 4, 3, 9)
        for one in ((-3, 4), (0, 6), (3, 9)):
            least = plain_prices(ground_of(land, box), one, 2)
            for other, price in least.items():
                for side in (2, 3, 5):
                    self.assertEqual(price_by_blocks(land, box, one, other, weight=2, side=side), price)

    def test_boxes_of_few_points_and_many(self):
        land = Land(HILLS, 3)
        for box in ((5, 5, 5, 5), (0, 0, 30, 0), (4, -30, 4, 0), (0, 0, 399, 0), (0, 0, 0, 399), BOX,
                    (-10 ** 6, -10 ** 6, 9 - 10 ** 6, 9 - 10 ** 6), (10 ** 6 - 7, 0, 10 ** 6, 9)):
            one, other = (box[0], box[1]), (box[2], box[3])
            told = route(land, box, one, other, weight=3)[2]
            for side in (1, 4, 5, 20):
                self.assertEqual(price_by_blocks(land, box, one, other, weight=3, side=side), told)
            self.assertEqual(price_by_blocks(land, box, other, other, weight=3), 0)

    def test_refused(self):
        land, one, other = Land(HILLS, 3), (0, 0), (9, 9)
        for side in (0, -1, 21, 10 ** 29, True):
            with self.subTest(side=side), self.assertRaises(NoCount):
                price_by_blocks(land, BOX, one, other, side=side)
            with self.assertRaises(NoPoint):
                price_by_blocks(land, BOX, one, (20, 0), side=side)
            with self.assertRaises(NoBox):
                price_by_blocks(land, (0, 0, 20, 19), one, (20, 30), side=side)

    def test_by_names(self):
        land = Land(HILLS, 3)
        told = price_by_blocks(land, BOX, (1, 2), (9, 3), weight=4, side=6)
        self.assertEqual(price_by_blocks(side=6, weight=4, other=(9, 3), one=(1, 2), box=BOX, land=land), told)
        with self.assertRaises(TypeError):
            price_by_blocks(land, BOX, (1, 2), (9, 3), 4, 6)


class Tables(unittest.TestCase):
    """Border tables that are kept tell nothing else than those made anew."""

    def test_whatever_was_asked_ahead(self):
        chance = Chance(311)
        rules = ("over", ("noise", 4, 1), 5000)
        for memory in (0, 1, 5, 64, 1000):
            land = Land(rules, 3, memory=memory)
            for _ in range(40):
                word = chance.random.choice(("edit", "drop", "back", "none", "none", "none"))
                if word == "edit":
                    land.edit(chance.edit((-5, -5, 15, 15), [rules, HILLS]))
                elif word == "drop" and len(land):
                    land.drop(land.edits()[0][0])
                elif word == "back" and len(land):
                    land.back()
                box = chance.random.choice(((0, 0, 9, 9), (0, 0, 7, 12), (5, 5, 14, 9), (-5, -5, 9, 9)))
                points = [(chance.random.randint(box[0], box[2]), chance.random.randint(box[1], box[3])) for _ in "ab"]
                weight, side = chance.random.choice((0, 1, 7)), chance.random.choice((2, 5, 5, 5, 20))
                fresh = land_of(rules, 3, [edit for _, edit in land.edits()])
                self.assertEqual(price_by_blocks(land, box, *points, weight=weight, side=side),
                                 route(fresh, box, *points, weight=weight)[2])
                self.assertLessEqual(len(land._tables.held), memory)

    def test_blocks_with_more_and_fewer_neighbours(self):
        # The block (0, 0, 4, 4) is at the corner of one box and in the middle of the other.
        rules = ("over", ("noise", 4, 1), 5000)
        for boxes in (((0, 0, 9, 9), (-5, -5, 9, 9)), ((-5, -5, 9, 9), (0, 0, 9, 9)), ((0, 0, 4, 4), (-5, -5, 9, 9))):
            land = Land(rules, 3)
            for box in boxes:
                for one in ((box[0], box[1]), (2, 2), (0, 4), (4, 4)):
                    for other in ((box[2], box[3]), (3, 1), (0, 0), (box[0], box[3])):
                        self.assertEqual(price_by_blocks(land, box, one, other, weight=2),
                                         route(land, box, one, other, weight=2)[2])

    def test_what_is_kept_isnt_made_again(self):
        for memory, again in ((64, 0), (0, 9)):
            land, box = Land(("over", ("noise", 4, 1), 5000), 3, memory=memory), (0, 0, 14, 14)
            with mock.patch("landweave.ways.prices_from", wraps=prices_from) as made:
                first = price_by_blocks(land, box, (0, 0), (14, 14))
                many = made.call_count
                self.assertEqual(price_by_blocks(land, box, (0, 0), (14, 14)), first)
            # Only within the other's own block the ways are looked for anew.
            left = made.call_count - many
            self.assertGreaterEqual(left, again)
            self.assertEqual(left < many // 2, memory > 0)

    def test_what_a_deed_touches_is_thrown_away(self):
        land, box = Land(("whole", 0), 3), (0, 0, 14, 4)
        self.assertEqual(price_by_blocks(land, box, (0, 0), (14, 0)), 14)
        kept = list(land._tables.held)
        self.assertEqual(sorted(block for block, _ in kept), [(0, 0, 4, 4), (5, 0, 9, 4), (10, 0, 14, 4)])
        land.edit(("set", (7, 0, 7, 4), 100))
        self.assertEqual(sorted(block for block, _ in land._tables.held), [(0, 0, 4, 4), (10, 0, 14, 4)])
        self.assertEqual(price_by_blocks(land, box, (0, 0), (14, 0)), 114)
        land.back()
        self.assertEqual(price_by_blocks(land, box, (0, 0), (14, 0)), 14)
        land.again()
        self.assertEqual(price_by_blocks(land.twin(), box, (0, 0), (14, 0)), 114)


if __name__ == "__main__":
    unittest.main()
