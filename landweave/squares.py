"""Squares of a land by levels, and searches that pass boxes by where their bounds allow it."""

from heapq import heappop, heappush

from landweave.ground import heights_in, points_in, points_of
from landweave.land import must_tile, tile_box
from landweave.plain import holds_box, is_box, must_box_of

HIGHEST_SQUARE = 3
MOST_POINTS = 4096

# A box of no more points than this is looked at point by point: to cut it on costs more.
FEW_POINTS = 256


def square_at(land, level, i, j, *, least=0):
    """(LOW, HIGH, SUM, COUNT) of the heights of a square, COUNT of those that are LEAST or more."""
    must_tile(level, i, j, HIGHEST_SQUARE)
    return square_of(land, level, i, j, least)


def square_of(land, level, i, j, least):
    """What is told of a square: as it is kept, else of its points, or of the four squares below."""
    key = (level, i, j, least)
    square = land.kept_square(key)
    if square is None:
        if level == 0:
            square = lowest_square(land.tile_rows(0, i, j), least)
        else:
            square = joined_squares([
                square_of(land, level - 1, 2 * i + a, 2 * j + b, least) for a in (0, 1) for b in (0, 1)])
        land.keep_square(key, tile_box(level, i, j), square)
    return square


def lowest_square(rows, least):
    """What is told of a square of level 0, by a tile's rows; the last row and column are another one's."""
    heights = []
    for row in rows[:-1]:
        heights.extend(row[:-1])
    many = len([height for height in heights if height >= least])
    return (min(heights), max(heights), sum(heights), many)


def joined_squares(squares):
    """What is told of squares together."""
    return (min([square[0] for square in squares]), max([square[1] for square in squares]),
            sum([square[2] for square in squares]), sum([square[3] for square in squares]))


# Searches.


def tall(land, box, *, least):
    """("tall", POINTS, PASSED): the points of height LEAST or more, and boxes that were passed by."""
    must_box_of(box, MOST_POINTS)
    points = []
    passed = []
    todo = [box]
    while todo:
        part = todo.pop()
        if land.bounds(part)[1] < least:
            passed.append(part)
        elif points_of(part) > FEW_POINTS:
            todo.extend(halves(part))
        else:
            points.extend(points_from(land, part, least))
    return ("tall", sorted(points), sorted(passed))


def highest(land, box):
    """("highest", POINT, HEIGHT, PASSED): the first greatest height, and boxes that were passed by."""
    must_box_of(box, MOST_POINTS)
    # Of boxes with the greatest bounds the first one is looked at first.
    todo = [(-land.bounds(box)[1], box)]
    best, point = land.height(box[0], box[1]), box[:2]
    passed = []
    while todo:
        negative, part = heappop(todo)
        if is_passed(part, -negative, point, best):
            passed.append(part)
        elif points_of(part) > FEW_POINTS:
            for half in halves(part):
                heappush(todo, (-land.bounds(half)[1], half))
        else:
            height, spot = first_highest(land, part)
            if height > best or height == best and spot < point:
                best, point = height, spot
    return ("highest", point, best, sorted(passed))


def is_passed(box, high, point, height):
    """Whether a box with such a bound has no point that is higher, or as high and ahead in order."""
    return high < height or high == height and point < box[:2]


def halves(box):
    """The two halves of a box of two points or more, cut where it is longer."""
    x0, z0, x1, z1 = box
    if x1 - x0 >= z1 - z0:
        middle = (x0 + x1) // 2
        return [(x0, z0, middle, z1), (middle + 1, z0, x1, z1)]
    middle = (z0 + z1) // 2
    return [(x0, z0, x1, middle), (x0, middle + 1, x1, z1)]


def points_from(land, box, least):
    """The points of a box that have a height of LEAST or more, in order."""
    heights = heights_in(land, box)
    return [point for point, height in zip(points_in(box), heights) if height >= least]


def first_highest(land, box):
    """The greatest height in a box, and the first point in order that has it."""
    heights = heights_in(land, box)
    height = max(heights)
    return height, points_in(box)[heights.index(height)]


# Lookers.


def shows_tall(land, box, told, *, least):
    """Whether tall may tell so of a land."""
    must_box_of(box, MOST_POINTS)
    if len(told) != 3 or told[0] != "tall":
        return False
    _, points, passed = told
    if points != points_from(land, box, least) or not are_apart(box, passed):
        return False
    return all([land.bounds(part)[1] < least for part in passed])


def shows_highest(land, box, told):
    """Whether highest may tell so of a land."""
    must_box_of(box, MOST_POINTS)
    if len(told) != 4 or told[0] != "highest":
        return False
    _, point, height, passed = told
    if (height, point) != first_highest(land, box) or not are_apart(box, passed):
        return False
    return all([is_passed(part, land.bounds(part)[1], point, height) for part in passed])


def are_apart(box, parts):
    """Whether parts are boxes within a box, in order, no two of them with a common point."""
    seen = set()
    many = 0
    for part in parts:
        if not is_box(part) or not holds_box(box, part):
            return False
        for point in points_in(part):
            seen.add(point)
        many += points_of(part)
        if len(seen) < many:
            return False
    return parts == sorted(parts)
