"""The ground of a box: its points, their heights, and ways over it from point to point."""

from landweave.errors import NoPoint
from landweave.plain import is_point


def must_be_point(point):
    """Refuse with NoPoint what is no point (X, Z)."""
    if not isinstance(point, tuple) or len(point) != 2 or not is_point(point[0], point[1]):
        raise NoPoint()


def must_be_in(box, point):
    """Refuse with NoPoint what is no point of a box."""
    must_be_point(point)
    if not is_in(box, point):
        raise NoPoint()


def is_in(box, point):
    """Whether a point lies in a box."""
    return box[0] <= point[0] <= box[2] and box[1] <= point[1] <= box[3]


def is_at_edge(box, point):
    """Whether a point of a box lies at its edge."""
    return point[0] == box[0] or point[0] == box[2] or point[1] == box[1] or point[1] == box[3]


def points_of(box):
    """How many points a box has."""
    return (box[2] - box[0] + 1) * (box[3] - box[1] + 1)


def points_in(box):
    """All points of a box, in order."""
    return [(x, z) for x in range(box[0], box[2] + 1) for z in range(box[1], box[3] + 1)]


def heights_in(land, box):
    """The heights of all points of a box, in order."""
    return land.heights(box[0], box[1], box[2] - box[0] + 1, box[3] - box[1] + 1, 1)


def ground_of(land, box):
    """The points of a box, in order, each with its height."""
    return dict(zip(points_in(box), heights_in(land, box)))


def points_beside(point):
    """The four points beside a point, in order, in its box or not."""
    x, z = point
    return [(x - 1, z), (x, z - 1), (x, z + 1), (x + 1, z)]


def way_to(before, place):
    """The way to a place, by the place that each one is come to from, None for the first one."""
    way = []
    while place is not None:
        way.append(place)
        place = before[place]
    return way[::-1]
