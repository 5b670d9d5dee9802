"""What all parts of the land take for numbers, names, points and boxes."""

from landweave.errors import NoBox, NoPoint

EDGE = 1000000
ALL_POINTS = (-1000000, -1000000, 1000000, 1000000)
LONGEST_NAME = 8


def is_whole(thing):
    """Whether a thing is a whole number; to Python a truth would be one, too."""
    return isinstance(thing, int) and not isinstance(thing, bool)


def is_from(thing, low, high):
    """Whether a thing is a whole number from low to high."""
    return isinstance(thing, int) and low <= thing <= high and not isinstance(thing, bool)


def is_name(thing):
    """Whether a thing is a name: a text of one to eight small letters a to z."""
    # Within ASCII no sign but a to z is a small letter.
    return isinstance(thing, str) and thing.isascii() and thing.isalpha() and thing.islower() and (
        len(thing) <= LONGEST_NAME)


def is_point(x, z):
    """Whether (x, z) is a point of the land."""
    # Written out, as it is asked of each height.
    return (isinstance(x, int) and isinstance(z, int) and -EDGE <= x <= EDGE and -EDGE <= z <= EDGE
            and not isinstance(x, bool) and not isinstance(z, bool))


def must_point(x, z):
    """Refuse (x, z) with NoPoint where it is no point."""
    if not is_point(x, z):
        raise NoPoint()


def is_box(thing):
    """Whether a thing is a box, of any size."""
    if not isinstance(thing, tuple) or len(thing) != 4:
        return False
    if not is_point(thing[0], thing[1]) or not is_point(thing[2], thing[3]):
        return False
    return thing[0] <= thing[2] and thing[1] <= thing[3]


def must_box(box):
    """Refuse a box with NoBox where it is none."""
    if not is_box(box):
        raise NoBox()


def must_box_of(box, most):
    """Refuse a box with NoBox where it is none, or one of more than so many points."""
    must_box(box)
    if (box[2] - box[0] + 1) * (box[3] - box[1] + 1) > most:
        raise NoBox()


def shared_box(one, other):
    """The box of the points that two boxes have in common, or None."""
    if one[0] > other[2] or other[0] > one[2] or one[1] > other[3] or other[1] > one[3]:
        return None
    return (max(one[0], other[0]), max(one[1], other[1]), min(one[2], other[2]), min(one[3], other[3]))


def holds_box(one, other):
    """Whether a box has all points of another one."""
    return one[0] <= other[0] and one[1] <= other[1] and other[2] <= one[2] and other[3] <= one[3]
