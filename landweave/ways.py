"""Ways over the land: the cheapest ones through a box, at once or put together from blocks.

The steps of a box are a dict: for each of its points the points beside it, each with the price of the
step to it.
"""

from heapq import heappop, heappush

from landweave.errors import NoCount
from landweave.ground import ground_of, is_at_edge, is_in, must_be_in, points_beside, points_in
from landweave.plain import is_from, must_box_of

MOST_POINTS = 400
GREATEST_WEIGHT = 1000
LONGEST_SIDE = 20


def route(land, box, one, other, *, weight=1):
    """("route", POINTS, PRICE, MARKS): a cheapest way, and marks that show that none is cheaper."""
    must_way(box, (one, other), weight)
    steps = steps_in(land, box, weight)
    found = prices_from(steps, one)
    return ("route", way_by(steps, found, other), found[other], rows_of(box, found))


def prices(land, box, one, *, weight=1):
    """For each z of a box a list with, for each x, the least price from the one."""
    must_way(box, (one,), weight)
    return rows_of(box, prices_from(steps_in(land, box, weight), one))


def must_way(box, points, weight):
    """Refuse a box, points of it or a weight that are none."""
    must_box_of(box, MOST_POINTS)
    for point in points:
        must_be_in(box, point)
    if not is_from(weight, 0, GREATEST_WEIGHT):
        raise NoCount()


def steps_in(land, box, weight):
    """The steps of a box."""
    ground = ground_of(land, box)
    steps = {}
    for point, height in ground.items():
        ahead = []
        for other in points_beside(point):
            if other in ground:
                rise = ground[other] - height
                ahead.append((other, 1 + weight * rise if rise > 0 else 1))
        steps[point] = ahead
    return steps


def prices_from(steps, start):
    """The least price of each point from a start on, by the points' steps."""
    found = {start: 0}
    queue = [(0, start)]
    while queue:
        price, point = heappop(queue)
        # A point may wait several times; only the least price counts.
        if price > found[point]:
            continue
        for other, more in steps[point]:
            if other not in found or price + more < found[other]:
                found[other] = price + more
                heappush(queue, (price + more, other))
    return found


def way_by(steps, found, last):
    """A cheapest way to a point, by the least prices from its start on."""
    way = [last]
    while found[last] > 0:
        # A cheapest way comes from where the least prices differ by just the price of the step.
        last = [other for other, _ in steps[last] if (last, found[last] - found[other]) in steps[other]][0]
        way.append(last)
    return way[::-1]


def rows_of(box, found):
    """What is found of the points of a box: for each z a list with, for each x, a number."""
    return [[found[(x, z)] for x in range(box[0], box[2] + 1)] for z in range(box[1], box[3] + 1)]


# The looker.


def shows_route(land, box, one, other, told, *, weight=1):
    """Whether route may tell so of a land."""
    must_way(box, (one, other), weight)
    if len(told) != 4 or told[0] != "route":
        return False
    _, points, price, marks = told
    if not points or points[0] != one or points[-1] != other or not are_marks(box, marks):
        return False
    steps = steps_in(land, box, weight)
    if price_of(steps, points) != price:
        return False
    x0, z0 = box[0], box[1]
    found = {(x, z): marks[z - z0][x - x0] for x, z in steps}
    return found[one] == 0 and found[other] == price and are_least(steps, found)


def are_marks(box, marks):
    """Whether marks are one for each point of a box."""
    wide, deep = box[2] - box[0] + 1, box[3] - box[1] + 1
    return [len(row) for row in marks] == [wide] * deep


def price_of(steps, points):
    """The price of a way that goes step by step from a point of a box, or None where it doesn't."""
    price = 0
    for point, ahead in zip(points, points[1:]):
        told = [more for other, more in steps[point] if other == ahead]
        if not told:
            return None
        price += told[0]
    return price


def are_least(steps, found):
    """Whether no step leads to a mark that is greater than the one it comes from and its price."""
    for point, ahead in steps.items():
        for other, more in ahead:
            if found[other] > found[point] + more:
                return False
    return True


# Blocks.


def price_by_blocks(land, box, one, other, *, weight=1, side=5):
    """The price that route tells, put together from ways within blocks of SIDE points either way."""
    must_way(box, (one, other), weight)
    if not is_from(side, 1, LONGEST_SIDE):
        raise NoCount()
    steps = steps_in(land, box, weight)
    parts = {}
    found = {one: 0}
    queue = []
    price, point = 0, one
    while point != other:
        if price == found[point]:
            block = block_at(box, side, point)
            if block not in parts:
                parts[block] = part_of(land, steps, block, weight)
            for ahead, more in ways_on(parts[block], point, other):
                if ahead not in found or price + more < found[ahead]:
                    found[ahead] = price + more
                    heappush(queue, (price + more, ahead))
        price, point = heappop(queue)
    return price


def block_at(box, side, point):
    """The block of a point, of those that a box is cut into from its first corner on."""
    x = point[0] - (point[0] - box[0]) % side
    z = point[1] - (point[1] - box[1]) % side
    return (x, z, min(x + side - 1, box[2]), min(z + side - 1, box[3]))


def part_of(land, steps, block, weight):
    """A block's part of a box: (INNER, GATES, TABLE).

    INNER has its steps that stay within it, GATES those that lead out of it as (POINT, AHEAD, PRICE).
    TABLE is its border table as the land keeps it: for points at its border the least prices, within it,
    of all points there; it is filled as it is asked for.
    """
    inner = {}
    gates = []
    for point in points_in(block):
        inner[point] = [(ahead, price) for ahead, price in steps[point] if is_in(block, ahead)]
        gates.extend([(point, ahead, price) for ahead, price in steps[point] if not is_in(block, ahead)])
    table = land.kept_table((block, weight))
    if table is None:
        table = {point: {} for point in inner if is_at_edge(block, point)}
        land.keep_table((block, weight), block, table)
    return inner, gates, table


def ways_on(part, point, other):
    """The ways from a point through its block: out of it, and to the other where that lies in it."""
    inner, gates, table = part
    within = table.get(point)
    if not within or other in inner:
        within = prices_from(inner, point)
        if point in table:
            kept = {border: within[border] for border in table}
            table[point] = kept
    ways = [(ahead, within[gate] + more) for gate, ahead, more in gates]
    if other in inner:
        ways.append((other, within[other]))
    return ways
