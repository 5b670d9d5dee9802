"""Cells of caves, rooms of cells, and which of them are rock before anything is dug or filled."""

from landweave.errors import NoBox, NoPoint
from landweave.grids import grid_values
from landweave.plain import is_from, is_point

TOP = 63
MOST_CELLS = 1728


def is_cell(x, y, z):
    """Whether (x, y, z) is a cell."""
    return is_point(x, z) and is_from(y, 0, TOP)


def must_cell(x, y, z):
    """Refuse (x, y, z) with NoPoint where it is no cell."""
    if not is_cell(x, y, z):
        raise NoPoint()


def must_room(room):
    """Refuse with NoBox what is no room, of any size."""
    if not isinstance(room, tuple) or len(room) != 6:
        raise NoBox()
    if not is_cell(room[0], room[1], room[2]) or not is_cell(room[3], room[4], room[5]):
        raise NoBox()
    if room[0] > room[3] or room[1] > room[4] or room[2] > room[5]:
        raise NoBox()


def must_small_room(room):
    """Refuse with NoBox what is no room, or one of more cells than may be looked at."""
    must_room(room)
    if cells_of(room) > MOST_CELLS:
        raise NoBox()


def cells_of(room):
    """How many cells a room has."""
    return (room[3] - room[0] + 1) * (room[4] - room[1] + 1) * (room[5] - room[2] + 1)


def holds_cell(room, x, y, z):
    """Whether a cell lies in a room."""
    return room[0] <= x <= room[3] and room[1] <= y <= room[4] and room[2] <= z <= room[5]


def shared_room(one, other):
    """The room of the cells that two rooms have in common, or None."""
    low = [max(one[at], other[at]) for at in (0, 1, 2)]
    high = [min(one[at], other[at]) for at in (3, 4, 5)]
    if low[0] > high[0] or low[1] > high[1] or low[2] > high[2]:
        return None
    return (*low, *high)


def cells_beside(cell):
    """The six cells that touch a cell, in order."""
    x, y, z = cell
    return [(x - 1, y, z), (x, y - 1, z), (x, y, z - 1), (x, y, z + 1), (x, y + 1, z), (x + 1, y, z)]


# Rock. A stack has, for each y of a room, a list with, for each x, a list of truths, one for each z.


def first_stack(steps, seed, cut, room):
    """Which cells of a room, that may lie beyond all rooms, are rock ahead of the rounds."""
    xs = list(range(room[0], room[3] + 1))
    zs = list(range(room[2], room[5] + 1))
    deep = len(zs)
    stack = []
    for y in range(room[1], room[4] + 1):
        rocks = [value >= cut for value in grid_values(steps, seed + y, xs, zs)]
        stack.append([rocks[at:at + deep] for at in range(0, len(rocks), deep)])
    return stack


def rock_stack(steps, seed, cut, rounds, need, room):
    """Which cells of a room are rock behind the rounds."""
    grown = [corner - rounds for corner in room[:3]] + [corner + rounds for corner in room[3:]]
    stack = first_stack(steps, seed, cut, grown)
    for _ in range(rounds):
        stack = next_stack(stack, need)
    return stack


def next_stack(stack, need):
    """A stack behind one more round: one less at each of its sides."""
    found = []
    for below, same, above in zip(stack, stack[1:], stack[2:]):
        # The 27 cells around one are summed in one direction behind the other.
        rows = [triples(low, row, high) for low, row, high in zip(below, same, above)]
        rows = [triples(low, row, high) for low, row, high in zip(rows, rows[1:], rows[2:])]
        found.append([[many >= need for many in triples(row, row[1:], row[2:])] for row in rows])
    return found


def triples(one, two, three):
    """The sums of what stands at the same place in three rows."""
    return [low + middle + high for low, middle, high in zip(one, two, three)]
