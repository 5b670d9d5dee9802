"""Caves: cells of rock and open ones by rules, smoothed by rounds, dug and filled by deeds."""

from landweave.cells import (
    cells_beside, cells_of, holds_cell, must_cell, must_room, must_small_room, rock_stack, shared_room)
from landweave.errors import NoCount, NoDeed, NoPoint
from landweave.fields import steps_of
from landweave.ground import way_to
from landweave.memory import Memory
from landweave.plain import is_from

CUT = 32768
ROUNDS = 2
NEED = 14
MOST_ROUNDS = 2
MOST_NEED = 28
LONGEST_SIDE = 12

# Cells asked for one by one, or as rooms of so few cells, come out of lumps of LUMP cells either way;
# so many lumps are kept.
LUMP = 4
FEW_CELLS = 8
MOST_LUMPS = 200


class Cave:
    """Cells of rock and open ones; answers hang on the rules, the seed and the standing deeds."""

    def __init__(self, rules, seed, *, cut=CUT, rounds=ROUNDS, need=NEED):
        self._steps = tuple(steps_of(rules))
        if not is_from(rounds, 0, MOST_ROUNDS) or not is_from(need, 0, MOST_NEED):
            raise NoCount()
        self._rules = rules
        self._seed = seed
        self._cut = cut
        self._rounds = rounds
        self._need = need
        self._done = []
        self._undone = []
        self._lumps = Memory(MOST_LUMPS)

    def is_rock(self, x, y, z):
        """Whether the cell (x, y, z) is rock."""
        must_cell(x, y, z)
        for room, rock in reversed(self._done):
            if holds_cell(room, x, y, z):
                return rock
        return self._first_rock(x, y, z)

    def block(self, room):
        """A list with, for each y, a list with, for each z, a text of "#" and "." for each x."""
        must_small_room(room)
        stack = self._stack(room)
        for dug, rock in self._done:
            part = shared_room(room, dug)
            if part is not None:
                put_part(stack, room, part, rock)
        return [[text_of(row) for row in zip(*rows)] for rows in stack]

    def dig(self, room):
        """Let all cells of a room be open from now on."""
        self._do(room, False)

    def fill(self, room):
        """Let all cells of a room be rock from now on."""
        self._do(room, True)

    def back(self):
        """Take the last deed back that was done and not taken back."""
        if not self._done:
            raise NoDeed()
        self._undone.append(self._done.pop())

    def again(self):
        """Do the last deed taken back again, where none was done since."""
        if not self._undone:
            raise NoDeed()
        self._done.append(self._undone.pop())

    def twin(self):
        """Another cave that is alike, with its deeds."""
        other = Cave(self._rules, self._seed, cut=self._cut, rounds=self._rounds, need=self._need)
        other._done = list(self._done)
        other._undone = list(self._undone)
        return other

    def _do(self, room, rock):
        """Do a deed: all cells of a room are rock, or open, from now on."""
        must_room(room)
        self._done.append((room, rock))
        self._undone = []

    def _stack(self, room):
        """Which cells of a room are rock behind the rounds, ahead of all deeds."""
        x0, y0, z0, x1, y1, z1 = room
        if cells_of(room) > FEW_CELLS:
            return rock_stack(self._steps, self._seed, self._cut, self._rounds, self._need, room)
        return [[[self._first_rock(x, y, z) for z in range(z0, z1 + 1)] for x in range(x0, x1 + 1)]
                for y in range(y0, y1 + 1)]

    def _first_rock(self, x, y, z):
        """Whether a cell is rock behind the rounds, ahead of all deeds."""
        key = (x // LUMP, y // LUMP, z // LUMP)
        lump = self._lumps.kept(key)
        if lump is None:
            low = [LUMP * part for part in key]
            high = [LUMP * part + LUMP - 1 for part in key]
            lump = self._stack((*low, *high))
            # Lumps lie ahead of all deeds, so none is ever forgotten by a box.
            self._lumps.keep(key, None, lump)
        return lump[y % LUMP][x % LUMP][z % LUMP]


def put_part(stack, room, part, rock):
    """Let all cells of a part of a room be rock, or open, in the room's stack."""
    low, high = part[2] - room[2], part[5] - room[2] + 1
    for rows in stack[part[1] - room[1]:part[4] - room[1] + 1]:
        for row in rows[part[0] - room[0]:part[3] - room[0] + 1]:
            row[low:high] = [rock] * (high - low)


def text_of(row):
    """The text of a row of cells."""
    return "".join(["#" if rock else "." for rock in row])


# Lots of open cells.


def rooms_in(cave, room):
    """The lots of open cells of a room that hold together by touching, each and all in order."""
    return lots_of(open_cells(cave, room))


def open_cells(cave, room):
    """The open cells of a room, in order, each with True."""
    found = []
    for y, rows in enumerate(cave.block(room), room[1]):
        for z, text in enumerate(rows, room[2]):
            for x, sign in enumerate(text, room[0]):
                if sign == ".":
                    found.append((x, y, z))
    return {cell: True for cell in sorted(found)}


def lots_of(cells):
    """The lots of cells, handed in in order, that hold together by touching."""
    lots = []
    seen = set()
    for cell in cells:
        if cell in seen:
            continue
        lot = list(steps_from(cells, cell))
        for other in lot:
            seen.add(other)
        lots.append(sorted(lot))
    return lots


def steps_from(cells, start):
    """Of each cell that holds together with one: the cell it is come to from by as few steps as can be."""
    before = {start: None}
    row = [start]
    while row:
        ahead = []
        for cell in row:
            for other in cells_beside(cell):
                if other in cells and other not in before:
                    before[other] = cell
                    ahead.append(other)
        row = ahead
    return before


def by_blocks(cave, room, *, side=4):
    """What rooms_in tells, put together from blocks of SIDE cells either way."""
    must_small_room(room)
    if not is_from(side, 1, LONGEST_SIDE):
        raise NoCount()
    lots = []
    for block in blocks_of(room, side):
        lots.extend(rooms_in(cave, block))
    return joined_lots(lots)


def blocks_of(room, side):
    """The blocks that a room is cut into, from its first corner on."""
    blocks = []
    for x in range(room[0], room[3] + 1, side):
        for y in range(room[1], room[4] + 1, side):
            for z in range(room[2], room[5] + 1, side):
                last = (min(x + side - 1, room[3]), min(y + side - 1, room[4]), min(z + side - 1, room[5]))
                blocks.append((x, y, z, *last))
    return blocks


def joined_lots(lots):
    """Lots of cells, those that touch one another joined to one."""
    owner = {cell: number for number, lot in enumerate(lots) for cell in lot}
    beside = {number: [] for number in range(len(lots))}
    for cell, number in owner.items():
        for other in cells_beside(cell):
            if other in owner and owner[other] != number:
                beside[number].append(owner[other])
    joined = []
    seen = set()
    for number in beside:
        if number in seen:
            continue
        seen.add(number)
        todo = [number]
        cells = []
        while todo:
            found = todo.pop()
            cells.extend(lots[found])
            for other in beside[found]:
                if other not in seen:
                    seen.add(other)
                    todo.append(other)
        joined.append(sorted(cells))
    return sorted(joined)


# Ways through a room.


def same_room(cave, room, one, other):
    """("way", CELLS) from one cell to another, ("apart", LOT) of the one, or ("rock", CELL)."""
    must_two(room, one, other)
    return same_of(open_cells(cave, room), one, other)


def same_of(cells, one, other):
    """What same_room tells, by the open cells of a room."""
    for cell in (one, other):
        if cell not in cells:
            return ("rock", cell)
    before = steps_from(cells, one)
    if other not in before:
        return ("apart", sorted(before))
    return ("way", way_to(before, other))


def must_two(room, one, other):
    """Refuse what is no room to look through, and what are no two cells of it."""
    must_small_room(room)
    must_be_in(room, one)
    must_be_in(room, other)


def must_be_in(room, cell):
    """Refuse with NoPoint what is no cell of a room."""
    if not isinstance(cell, tuple) or len(cell) != 3:
        raise NoPoint()
    must_cell(cell[0], cell[1], cell[2])
    if not holds_cell(room, cell[0], cell[1], cell[2]):
        raise NoPoint()


def shows_same(cave, room, one, other, told):
    """Whether same_room may tell so of a cave."""
    must_two(room, one, other)
    cells = open_cells(cave, room)
    true = same_of(cells, one, other)
    if len(told) != 2 or told[0] != true[0]:
        return False
    word, found = told
    if word == "rock":
        return found == true[1]
    if word == "way":
        return len(found) == len(true[1]) and is_way(cells, one, other, found)
    return is_lot(cells, one, other, found)


def is_way(cells, one, other, way):
    """Whether a list of cells leads from the one to the other by touching cells."""
    if way[0] != one or way[-1] != other:
        return False
    for cell, ahead in zip(way, way[1:]):
        if ahead not in cells or ahead not in cells_beside(cell):
            return False
    return True


def is_lot(cells, one, other, lot):
    """Whether a list has cells in order, with the one and not the other, and all that touch them."""
    seen = {cell: True for cell in lot}
    if one not in seen or other in seen or lot != sorted(seen):
        return False
    for cell in lot:
        if cell not in cells:
            return False
        for beside in cells_beside(cell):
            if beside in cells and beside not in seen:
                return False
    return True
