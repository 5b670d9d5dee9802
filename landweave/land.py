"""A land: rules, a seed, and edits that overlay one another, kept by deeds."""

from landweave.edits import bounds_by, height_by, heights_by, layer_of
from landweave.errors import Full, NoCount, NoDeed, NoEdit, NoLevel, NoPoint, NoSuch
from landweave.fields import steps_of
from landweave.memory import Memory, is_met
from landweave.plain import holds_box, is_from, is_point, is_whole, must_box, must_point, shared_box

MEMORY = 64
GREATEST_MEMORY = 1000
MOST_EDITS = 60
MOST_KNOWN = 5000
HIGHEST_LEVEL = 5
SIDE = 16
ROWS = {"edit": 2, "drop": 2, "swap": 3}


class Land:
    """Heights by rules, a seed and edits; answers hang on nothing else.

    What stands is a tuple of (NUMBER, EDIT, LAYER) that is never changed, only exchanged for another
    one, so a deed is kept as what stood ahead of it and what stands behind it.
    """

    def __init__(self, rules, seed, *, memory=MEMORY):
        self._steps = tuple(steps_of(rules))
        if not is_from(memory, 0, GREATEST_MEMORY):
            raise NoCount()
        self._rules = rules
        self._seed = seed
        self._bound = memory
        self._standing = ()
        self._layers = ()
        self._next = 1
        self._done = []
        self._undone = []
        # Knots around places whose heights were asked for: they hang on the seed, so no deed touches them.
        self._known = {}
        self._tiles = Memory(memory)
        self._squares = Memory(memory)
        self._tables = Memory(memory)

    def __eq__(self, other):
        return isinstance(other, Land) and self._rules == other._rules and self._seed == other._seed and (
            [entry[1] for entry in self._standing] == [entry[1] for entry in other._standing])

    def __len__(self):
        return len(self._standing)

    def rules(self):
        """The rules, as handed in."""
        return self._rules

    def seed(self):
        """The seed, as handed in."""
        return self._seed

    # Heights.

    def height(self, x, z):
        """The height at the point (x, z)."""
        must_point(x, z)
        if len(self._known) > MOST_KNOWN:
            self._known = {}
        return height_by(self._layers, self._steps, self._seed, x, z, self._known)

    def heights(self, x, z, wide, deep, apart):
        """The heights of a grid of points, in order, as one list; the points may lie anywhere."""
        return heights_by(self._layers, self._steps, self._seed, (x, z, wide, deep, apart))

    def bounds(self, box):
        """Bounds (LOW, HIGH): each height in the box lies between."""
        must_box(box)
        return bounds_by(self._layers, self._steps, self._seed, box)

    def tile(self, level, i, j):
        """A list of 17 lists, one for each x, of 17 heights that are 2 ** level apart."""
        must_tile(level, i, j, HIGHEST_LEVEL)
        return [list(row) for row in self.tile_rows(level, i, j)]

    def tile_rows(self, level, i, j):
        """The heights of a tile, as it is kept: a tuple of tuples."""
        key = (level, i, j)
        rows = self._tiles.kept(key)
        if rows is None:
            x0, z0, x1, z1 = tile_box(level, i, j)
            heights = self.heights(x0, z0, SIDE + 1, SIDE + 1, 1 << level)
            rows = tuple([tuple(heights[at:at + SIDE + 1]) for at in range(0, len(heights), SIDE + 1)])
            self._tiles.keep(key, (x0, z0, x1, z1), rows)
        return rows

    def kept_square(self, key):
        """What is kept of a square by its level, place and least height, or None."""
        return self._squares.kept(key)

    def keep_square(self, key, box, square):
        """Keep what is told of a square until a deed touches it."""
        self._squares.keep(key, box, square)

    def kept_table(self, key):
        """What is kept of a border table by its block and weight, or None."""
        return self._tables.kept(key)

    def keep_table(self, key, box, table):
        """Keep a border table until a deed touches its block."""
        self._tables.keep(key, box, table)

    # Deeds.

    def edit(self, edit):
        """Put an edit behind the others; tells its number."""
        number = self._next
        self._do(with_edit(self._standing, number, edit), number + 1)
        return number

    def drop(self, number):
        """Take an edit from its place."""
        self._do(without_edit(self._standing, number), self._next)

    def swap(self, one, other):
        """Let two edits exchange their places."""
        self._do(with_swap(self._standing, one, other), self._next)

    def pour(self, land):
        """Put all edits of a land behind, in order, by new numbers, as one deed."""
        if len(self._standing) + len(land._standing) > MOST_EDITS:
            raise Full()
        standing = list(self._standing)
        for number, (_, edit, layer) in enumerate(land._standing, self._next):
            standing.append((number, edit, layer))
        self._do(tuple(standing), self._next + len(land._standing))

    def many(self, rows):
        """Do rows ("edit", EDIT), ("drop", NUMBER), ("swap", ONE, OTHER) as one deed, or none of them."""
        standing, number = self._standing, self._next
        for row in rows:
            must_row(row)
            if row[0] == "edit":
                standing = with_edit(standing, number, row[1])
                number += 1
            elif row[0] == "drop":
                standing = without_edit(standing, row[1])
            else:
                standing = with_swap(standing, row[1], row[2])
        self._do(standing, number)

    def back(self):
        """Take the last deed back that was done and not taken back."""
        if not self._done:
            raise NoDeed()
        deed = self._done.pop()
        self._undone.append(deed)
        self._stand(deed[0])

    def again(self):
        """Do the last deed taken back again, where none was done since."""
        if not self._undone:
            raise NoDeed()
        deed = self._undone.pop()
        self._done.append(deed)
        self._stand(deed[1])

    def take(self, number, edit):
        """Put an edit behind by a number of its own, which is no deed; later numbers are greater."""
        self._stand(with_edit(self._standing, number, edit))
        self._next = max(self._next, number + 1)

    def _do(self, standing, number):
        """Do a deed that leaves these edits standing and that number next."""
        self._done.append((self._standing, standing))
        self._undone = []
        self._next = number
        self._stand(standing)

    def _stand(self, standing):
        """Let these edits stand, and forget what was made of points that they change."""
        boxes = touched_boxes(self._standing, standing)
        if boxes:
            self._tiles.forget(boxes)
            self._squares.forget(boxes)
            self._tables.forget(boxes)
        self._standing = standing
        self._layers = tuple([entry[2] for entry in standing])

    # Lands made of a land.

    def edits(self):
        """The edits in order of their places: a list of tuples (NUMBER, EDIT)."""
        return [(entry[0], entry[1]) for entry in self._standing]

    def twin(self):
        """Another land that is alike, with its numbers and its deeds."""
        other = self.without([])
        other._done = list(self._done)
        other._undone = list(self._undone)
        return other

    def without(self, numbers):
        """Another land that is alike, but for some edits, with its numbers and no deeds."""
        other = Land(self._rules, self._seed, memory=self._bound)
        other._stand(tuple([entry for entry in self._standing if entry[0] not in numbers]))
        other._next = self._next
        return other


# Tiles.


def must_tile(level, i, j, highest):
    """Refuse a tile with NoLevel by its level, or with NoPoint where it has what is no point."""
    if not is_from(level, 0, highest):
        raise NoLevel()
    box = tile_box(level, i, j)
    if not is_point(box[0], box[1]) or not is_point(box[2], box[3]):
        raise NoPoint()


def tile_box(level, i, j):
    """The box from a tile's first point to its last one."""
    size = SIDE << level
    return (size * i, size * j, size * i + size, size * j + size)


# What stands behind a deed.


def with_edit(standing, number, edit):
    """What stands with one edit more."""
    layer = layer_of(edit)
    if len(standing) >= MOST_EDITS:
        raise Full()
    return (*standing, (number, edit, layer))


def without_edit(standing, number):
    """What stands without an edit."""
    place = place_of(standing, number)
    return standing[:place] + standing[place + 1:]


def with_swap(standing, one, other):
    """What stands with two edits in one another's places."""
    first, second = place_of(standing, one), place_of(standing, other)
    places = list(standing)
    places[first], places[second] = standing[second], standing[first]
    return tuple(places)


def place_of(standing, number):
    """The place at which an edit stands by its number."""
    for place, entry in enumerate(standing):
        if is_whole(number) and entry[0] == number:
            return place
    raise NoSuch(number)


def must_row(row):
    """Refuse what is no row of many by its word and how many things it has."""
    if not isinstance(row, tuple) or not row or not isinstance(row[0], str):
        raise NoEdit("many")
    if row[0] not in ROWS or len(row) != ROWS[row[0]]:
        raise NoEdit("many")


def touched_boxes(before, behind):
    """Boxes with all points that two rows of edits make different heights of.

    Edits that both rows begin or end with change the same points in the same way; but of those at the
    end copies hand on what is different where they read.
    """
    start = same_many(before, behind)
    end = same_many(before[start:][::-1], behind[start:][::-1])
    ends = len(before) - end
    boxes = [entry[1][1] for entry in before[start:ends] + behind[start:len(behind) - end]]
    for entry in before[ends:]:
        edit = entry[1]
        if edit[0] == "copy" and is_met(read_box(edit), boxes):
            boxes.append(edit[1])
    return boxes


def same_many(before, behind):
    """How many edits two rows of them have in common, from the first one on."""
    for place, (one, other) in enumerate(zip(before, behind)):
        if one[1] != other[1]:
            return place
    return min(len(before), len(behind))


# Edits that aren't needed.


def needless(land):
    """The numbers, rising, of all edits that a later one covers before anything is read of them."""
    numbers = [number for number, _ in land.edits() if covered_by(land, number)[0] == "covered"]
    return sorted(numbers)


def thinned(land):
    """Another land with the same heights, without the edits that aren't needed, and without deeds."""
    return land.without(needless(land))


def covered_by(land, number):
    """("covered", OTHER) by the later edit that covers one; else ("stands", READER), the copy that reads it."""
    edits = land.edits()
    place = place_of(edits, number)
    box = edits[place][1][1]
    for other, edit in edits[place + 1:]:
        if edit[0] == "copy" and shared_box(read_box(edit), box) is not None:
            return ("stands", other)
        if edit[0] in ("set", "field") and holds_box(edit[1], box):
            return ("covered", other)
    return ("stands", None)


def read_box(edit):
    """The box of the points that a copy reads."""
    _, box, dx, dz = edit
    return (box[0] + dx, box[1] + dz, box[2] + dx, box[3] + dz)
