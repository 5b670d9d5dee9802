"""Sight: whether one sees from above one point of the land to above another."""

from math import gcd

from landweave.errors import NoCount, NoPoint
from landweave.ground import must_be_point
from landweave.plain import is_from

EYE = 2
GREATEST_EYE = 1000
FARTHEST = 200


def sees(land, one, other, *, eye=EYE):
    """("hidden", POINT), the first that is in the way, or ("sees", ROOM), the least room above the land."""
    must_be_point(one)
    must_be_point(other)
    dx, dz = other[0] - one[0], other[1] - one[1]
    far = max(abs(dx), abs(dz))
    if far > FARTHEST:
        raise NoPoint()
    if not is_from(eye, 0, GREATEST_EYE):
        raise NoCount()
    if far < 2:
        return ("sees", None)
    start = land.height(one[0], one[1])
    rise = land.height(other[0], other[1]) - start
    rooms = []
    for turn in range(1, far):
        point = (one[0] + nearest(turn * dx, far), one[1] + nearest(turn * dz, far))
        # All heights are taken FAR times, so that nothing is rounded.
        room = (start + eye - land.height(point[0], point[1])) * far + turn * rise
        if room < 0:
            return ("hidden", point)
        rooms.append(room)
    least = min(rooms)
    part = gcd(least, far)
    return ("sees", (least // part, far // part))


def nearest(top, bottom):
    """The whole number nearest to a fraction, of two as near the lesser one."""
    return -((bottom - 2 * top) // (2 * bottom))
