"""Points 18 to 20 written out plainly a second time, over the heights of a box: {POINT: HEIGHT}.

Nothing here uses the package but the heights that it is handed.
"""

from fractions import Fraction
from math import ceil

from tests.helper import points_in


def ground_of(land, box):
    return {point: land.height(*point) for point in points_in(box)}


def beside(point):
    x, z = point
    return [(x + 1, z), (x - 1, z), (x, z + 1), (x, z - 1)]


def step_price(ground, point, ahead, weight):
    return 1 + weight * max(0, ground[ahead] - ground[point])


def plain_prices(ground, one, weight):
    """The least price of each point from the one, by steps gone through until none makes one less."""
    prices = {one: 0}
    changed = True
    while changed:
        changed = False
        for point in ground:
            for ahead in beside(point):
                if point in prices and ahead in ground:
                    price = prices[point] + step_price(ground, point, ahead, weight)
                    if price < prices.get(ahead, price + 1):
                        prices[ahead] = price
                        changed = True
    return prices


def rows_of(box, found):
    return [[found[x, z] for x in range(box[0], box[2] + 1)] for z in range(box[1], box[3] + 1)]


def at_edge(box, point):
    return any(ahead not in set(points_in(box)) for ahead in beside(point))


def plain_lake(ground, spring, level):
    """All points below a level that hold together with the spring, each with how far off it is by steps."""
    if ground[spring] >= level:
        return {}
    known, row, steps = {spring: 0}, {spring}, 0
    while row:
        steps += 1
        row = {ahead for point in row for ahead in beside(point)
               if ground.get(ahead, level) < level and ahead not in known}
        known.update(dict.fromkeys(row, steps))
    return known


def plain_poured(ground, box, spring, level):
    """("dry",), ("holds", POINTS), or ("runs", how many points the shortest way has)."""
    lake = plain_lake(ground, spring, level)
    if not lake:
        return ("dry",)
    edge = [steps for point, steps in lake.items() if at_edge(box, point)]
    return ("runs", min(edge) + 1) if edge else ("holds", sorted(lake))


def plain_sight(height, one, other, eye):
    """What sees tells, by fractions; height tells the height at a point."""
    (x, z), (dx, dz) = one, (other[0] - one[0], other[1] - one[1])
    far = max(abs(dx), abs(dz))
    rooms = []
    for turn in range(1, far):
        # Of two whole numbers as near as one another it is the lesser one.
        point = tuple(ceil(start + Fraction(turn * by, far) - Fraction(1, 2)) for start, by in ((x, dx), (z, dz)))
        sight = height(*one) + eye + Fraction(turn * (height(*other) - height(*one)), far)
        if height(*point) > sight:
            return ("hidden", point)
        rooms.append(sight - height(*point))
    if not rooms:
        return ("sees", None)
    return ("sees", (min(rooms).numerator, min(rooms).denominator))
