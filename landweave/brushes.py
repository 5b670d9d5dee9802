"""Brushes: rows that go over the land from a place on and make marks, each an edit.

A fault is looked for by a list of what is still to do, parts in their order. All else goes by calls
within calls: rows lie at most 60 one within another, and somewhat more do no harm.
"""

from landweave.edits import box_around, changed
from landweave.errors import NoBrush, NoPoint
from landweave.ground import is_in
from landweave.plain import is_from, is_point, must_point

MOST_MARKS = 60
MOST_ROWS = 2000
MARKS = ("set", "raise", "least", "most")
HERE = (0, 0, 0, 0)

# What stands behind each word: a mark's word, rows, or a number by its kind below.
SHAPES = {
    "move": ("offset", "offset"),
    "mark": ("word", "side", "side", "figures"),
    "often": ("count", "rows"),
    "if": ("figures", "rows", "rows"),
}

NUMBERS = {
    "offset": (-100, 100),
    "side": (1, 50),
    "figures": (-999999999, 999999999),
    "count": (0, 20),
}


def must_brush(brush):
    """None, or a refusal with NoBrush by the first fault of the brush."""
    todo = [("rows", brush, ())]
    while todo:
        kind, thing, path = todo.pop()
        if kind == "rows":
            todo.extend(rows_of(thing, path)[::-1])
        elif kind == "row":
            todo.extend(things_of(thing, path)[::-1])
        elif kind == "word":
            if thing not in MARKS:
                raise NoBrush(path, "kind")
        elif not is_from(thing, NUMBERS[kind][0], NUMBERS[kind][1]):
            raise NoBrush(path, "number")
    marks, many = weighed(brush)
    if marks > MOST_MARKS or many > MOST_ROWS:
        raise NoBrush((), "great")


def rows_of(rows, path):
    """The rows of what stands for rows, each with its path; refuses what is no list."""
    if not isinstance(rows, list):
        raise NoBrush(path, "kind")
    return [("row", row, (*path, number)) for number, row in enumerate(rows)]


def things_of(row, path):
    """What stands behind the word of a row, each thing with its kind and path; refuses what is no row."""
    # A word that is no text might not do as a key, so it must not be looked up.
    if not isinstance(row, tuple) or not row or not isinstance(row[0], str):
        raise NoBrush(path, "kind")
    if row[0] not in SHAPES or len(row) != 1 + len(SHAPES[row[0]]):
        raise NoBrush(path, "kind")
    return [(kind, row[place], (*path, place)) for place, kind in enumerate(SHAPES[row[0]], 1)]


def weighed(rows):
    """How many marks rows can make, and how many rows they can go by."""
    marks, many = 0, 0
    for row in rows:
        many += 1
        if row[0] == "mark":
            marks += 1
        elif row[0] == "often":
            more, longer = weighed(row[2])
            marks += row[1] * more
            many += row[1] * longer
        elif row[0] == "if":
            one, other = weighed(row[2]), weighed(row[3])
            marks += max(one[0], other[0])
            many += max(one[1], other[1])
    return marks, many


# The reach.


def reach_of(brush):
    """A tuple (LOW X, LOW Z, HIGH X, HIGH Z) of where marks can lie, counted from the first place, or None."""
    must_brush(brush)
    return reach_of_rows(brush)[1]


def reach_of_rows(rows):
    """Where rows can end and where their marks can lie (or None), each as far as a box goes."""
    ends, marks = HERE, None
    for row in rows:
        moved, found = reach_of_row(row)
        marks = around_marks(marks, moved_marks(found, ends))
        ends = sums(ends, moved)
    return ends, marks


def reach_of_row(row):
    """What is told by reach_of_rows, of one row."""
    if row[0] == "move":
        return (row[1], row[2], row[1], row[2]), None
    if row[0] == "mark":
        return HERE, (0, 0, row[2] - 1, row[3] - 1)
    if row[0] == "if":
        one, marks = reach_of_rows(row[2])
        other, more = reach_of_rows(row[3])
        return box_around(one, other), around_marks(marks, more)
    if row[1] == 0:
        return HERE, None
    ends, marks = reach_of_rows(row[2])
    # What goes farther each time goes farthest the last time, all else the first time.
    last = [(row[1] - 1) * end for end in ends]
    begins = (min(last[0], 0), min(last[1], 0), max(last[2], 0), max(last[3], 0))
    return tuple([row[1] * end for end in ends]), moved_marks(marks, begins)


def sums(one, other):
    """The sums of the numbers at the same place of two tuples."""
    return tuple([low + high for low, high in zip(one, other)])


def moved_marks(marks, begins):
    """Where marks can lie whose rows can begin so far off, or None."""
    return None if marks is None else sums(marks, begins)


def around_marks(one, other):
    """Where marks can lie that can lie in one box or in the other, each of which may be None."""
    if one is None or other is None:
        return other if one is None else one
    return box_around(one, other)


# Painting.


def painted(land, brush, x, z):
    """Do all marks of a brush from a point on as one deed; tells the list of their numbers."""
    reach = reach_of(brush)
    must_point(x, z)
    if reach is not None and not is_reached(reach, x, z):
        raise NoPoint()
    marks = []
    go_by(land, brush, (x, z), marks)
    many = len(land)
    land.many([("edit", mark) for mark in marks])
    return [number for number, _ in land.edits()[many:]]


def is_reached(reach, x, z):
    """Whether all of a reach from (x, z) on is points."""
    return is_point(x + reach[0], z + reach[1]) and is_point(x + reach[2], z + reach[3])


def go_by(land, rows, place, marks):
    """Go by rows from a place on, put the marks they make behind some; tells the place come to."""
    for row in rows:
        if row[0] == "move":
            place = (place[0] + row[1], place[1] + row[2])
        elif row[0] == "mark":
            x, z = place
            marks.append((row[1], (x, z, x + row[2] - 1, z + row[3] - 1), row[4]))
        elif row[0] == "often":
            for _ in range(row[1]):
                place = go_by(land, row[2], place, marks)
        elif height_now(land, place, marks) >= row[1]:
            place = go_by(land, row[2], place, marks)
        else:
            place = go_by(land, row[3], place, marks)
    return place


def height_now(land, place, marks):
    """The height at a place, which may lie beyond the land, with some marks behind all edits."""
    height = land.heights(place[0], place[1], 1, 1, 1)[0]
    for word, box, number in marks:
        if is_in(box, place):
            height = number if word == "set" else changed(word, number, height)
    return height
