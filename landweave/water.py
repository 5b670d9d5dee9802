"""Water: what is poured at a spring runs out of a box, or is held by the ground around it."""

from heapq import heappop, heappush

from landweave.ground import ground_of, is_at_edge, must_be_in, points_beside, way_to
from landweave.plain import must_box_of

MOST_POINTS = 1024


def poured(land, box, spring, level):
    """("dry",), ("holds", POINTS) of the lake, or ("runs", POINTS) of a way to the edge."""
    must_spring(box, spring)
    return poured_on(ground_of(land, box), box, spring, level)


def must_spring(box, spring):
    """Refuse a box, or a spring in it, that is none."""
    must_box_of(box, MOST_POINTS)
    must_be_in(box, spring)


def poured_on(ground, box, spring, level):
    """What poured tells, by the ground of the box."""
    if ground[spring] >= level:
        return ("dry",)
    before = {spring: None}
    row = [spring]
    while row:
        ahead = []
        for point in row:
            # Points come by how far they are from the spring, so the first one at the edge is as near as any.
            if is_at_edge(box, point):
                return ("runs", way_to(before, point))
            for other in points_beside(point):
                if other not in before and ground[other] < level:
                    before[other] = point
                    ahead.append(other)
        row = ahead
    return ("holds", sorted(before))


def shows_poured(land, box, spring, level, told):
    """Whether poured may tell so of a land."""
    must_spring(box, spring)
    ground = ground_of(land, box)
    true = poured_on(ground, box, spring, level)
    if len(told) != len(true) or told[0] != true[0]:
        return False
    if told[0] != "runs":
        return told == true
    points = told[1]
    if len(points) != len(true[1]) or points[0] != spring:
        return False
    return is_below(ground, level, points) and is_at_edge(box, points[-1])


def is_below(ground, level, points):
    """Whether points below a level follow one another step by step."""
    for point, ahead in zip(points, points[1:]):
        if ahead not in points_beside(point):
            return False
    return all([point in ground and ground[point] < level for point in points])


def least_level(land, box, spring):
    """The greatest level at which water doesn't run out: the least of what it must rise to on a way."""
    must_spring(box, spring)
    ground = ground_of(land, box)
    seen = {spring: True}
    queue = []
    level, point = ground[spring], spring
    while not is_at_edge(box, point):
        for other in points_beside(point):
            if other not in seen:
                seen[other] = True
                heappush(queue, (max(level, ground[other]), other))
        level, point = heappop(queue)
    return level
