"""Edits: what they are, and what they make of the heights that the rules have.

Each edit becomes a layer (word, box, one, other), its rules made steps. Heights and bounds are found by
going back from the last layer: a copy moves the place that is asked for, a "set" or "field" ends the
way, what else changes heights is kept for the way forth. So each layer is looked at once, however many
copies of copies there are.
"""

from landweave.errors import NoEdit
from landweave.fields import run_known, run_steps, steps_of, steps_range
from landweave.grids import grid_values
from landweave.plain import is_from, must_box, shared_box

GREATEST_NUMBER = 999999999
FARTHEST_COPY = 1000
SHAPES = {"set": 3, "raise": 3, "least": 3, "most": 3, "field": 3, "copy": 4}


def layer_of(edit):
    """The layer of an edit; refuses what is none. A set is a field that is a whole number."""
    must_shape(edit)
    word, box, one = edit[:3]
    must_box(box)
    if word == "field":
        return (word, box, tuple(steps_of(one)), 0)
    if word == "copy":
        if not is_from(one, -FARTHEST_COPY, FARTHEST_COPY):
            raise NoEdit("number")
        if not is_from(edit[3], -FARTHEST_COPY, FARTHEST_COPY):
            raise NoEdit("number")
        return edit
    if not is_from(one, -GREATEST_NUMBER, GREATEST_NUMBER):
        raise NoEdit("number")
    if word == "set":
        return ("field", box, (("whole", one),), 0)
    return (word, box, one, 0)


def must_shape(edit):
    """Refuse what is no edit by its word and how many things it has."""
    if not isinstance(edit, tuple) or not edit or not isinstance(edit[0], str):
        raise NoEdit("kind")
    if edit[0] not in SHAPES or len(edit) != SHAPES[edit[0]]:
        raise NoEdit("kind")


# One height.


def height_by(layers, steps, seed, x, z, known):
    """The height at (x, z) by rules' steps and the layers over them; known has knots by this seed."""
    source = steps
    changes = []
    for word, box, one, other in reversed(layers):
        if box[0] <= x <= box[2] and box[1] <= z <= box[3]:
            if word == "field":
                source = one
                break
            if word == "copy":
                x += one
                z += other
            else:
                changes.append((word, one))
    height = run_known(source, seed, x, z, known)
    for word, number in reversed(changes):
        height = changed(word, number, height)
    return height


def changed(word, number, height):
    """What a raise, a least or a most makes of a height."""
    if word == "raise":
        return height + number
    if word == "least":
        return number if height < number else height
    return number if height > number else height


# The heights of a grid.


def heights_by(layers, steps, seed, grid):
    """The heights of a grid in order, as one list.

    A grid is (X, Z, WIDE, DEEP, APART): the points from (X, Z) on, WIDE by DEEP of them, each so far
    apart from the next. Layers cut it into pieces.
    """
    x, z, wide, deep, apart = grid
    heights = [0] * (wide * deep)
    todo = [(len(layers), x, z, wide, deep, 0, ())]
    while todo:
        level, x, z, wide, deep, place, changes = todo.pop()
        source = steps
        while level > 0:
            level -= 1
            word, box, one, other = layers[level]
            left, right = met(x, wide, apart, box[0], box[2])
            near, far = met(z, deep, apart, box[1], box[3])
            if left >= right or near >= far:
                continue
            if right - left < wide or far - near < deep:
                whole = (x, z, wide, deep, place)
                for part in parts_beside(whole, (left, near, right, far), apart, grid[3]):
                    todo.append((level, *part, changes))
                x, z, wide, deep, place = piece_of(whole, (left, near, right, far), apart, grid[3])
            if word == "field":
                source = one
                break
            if word == "copy":
                x += one
                z += other
            else:
                changes = (word, one, changes)
        values = changed_values(piece_values(source, seed, (x, z, wide, deep, apart)), changes)
        put_rows(heights, place, grid[3], values, deep)
    return heights


def met(start, many, apart, low, high):
    """Of so many numbers so far apart from a start on those from low to high: (FIRST, BEHIND THE LAST)."""
    return max(0, -((start - low) // apart)), min(many, (high - start) // apart + 1)


def piece_of(whole, part, apart, row):
    """A part of a piece (X, Z, WIDE, DEEP, PLACE), by the places of its rows in the piece."""
    left, near, right, far = part
    place = whole[4] + left * row + near
    return (whole[0] + left * apart, whole[1] + near * apart, right - left, far - near, place)


def parts_beside(whole, part, apart, row):
    """What is left of a piece around a part: at most four pieces."""
    wide, deep = whole[2], whole[3]
    left, near, right, far = part
    found = []
    for beside in ((0, 0, left, deep), (right, 0, wide, deep), (left, 0, right, near), (left, far, right, deep)):
        if beside[0] < beside[2] and beside[1] < beside[3]:
            found.append(piece_of(whole, beside, apart, row))
    return found


def piece_values(steps, seed, grid):
    """The values of steps at a grid of points, in order."""
    x, z, wide, deep, apart = grid
    if wide == 1 and deep == 1:
        return [run_steps(steps, seed, x, z)]
    xs = [x + apart * place for place in range(wide)]
    zs = [z + apart * place for place in range(deep)]
    return grid_values(steps, seed, xs, zs)


def changed_values(values, changes):
    """What changes, the first one foremost, make of heights."""
    while changes:
        word, number, changes = changes
        if word == "raise":
            values = [value + number for value in values]
        elif word == "least":
            values = [number if value < number else value for value in values]
        else:
            values = [number if value > number else value for value in values]
    return values


def put_rows(heights, place, row, values, deep):
    """Put a piece's values, so many for each x, where they belong among all heights."""
    for start in range(0, len(values), deep):
        heights[place:place + deep] = values[start:start + deep]
        place += row


# Bounds.


def bounds_by(layers, steps, seed, box):
    """Bounds (LOW, HIGH) of the heights in a box.

    One box is looked at for each layer. Where a copy meets only a part of it, it grows to hold what is
    copied, too; so bounds of a part are never wider, and it is no more work by more copies.
    """
    source = steps
    changes = []
    for word, held, one, other in reversed(layers):
        part = shared_box(box, held)
        if part is None:
            continue
        if word == "copy":
            moved = (part[0] + one, part[1] + other, part[2] + one, part[3] + other)
            box = moved if part == box else box_around(box, moved)
        elif word != "field":
            changes.append((word, one, part == box))
        elif part == box:
            source = one
            break
        else:
            changes.append((word, steps_range(one, seed, part), False))
    found = steps_range(source, seed, box)
    for word, one, whole in reversed(changes):
        found = changed_range(found, word, one, whole)
    return found


def box_around(one, other):
    """The least box with all points of two boxes."""
    return (min(one[0], other[0]), min(one[1], other[1]), max(one[2], other[2]), max(one[3], other[3]))


def changed_range(found, word, one, whole):
    """What a layer over a box, or over a part of it only, makes of its range."""
    low, high = one if word == "field" else (changed(word, one, found[0]), changed(word, one, found[1]))
    if whole:
        return (low, high)
    return (min(low, found[0]), max(high, found[1]))
