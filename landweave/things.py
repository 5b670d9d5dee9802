"""Things on the land: they stand at points whose knots are greater than all near them."""

from landweave.errors import NoCount
from landweave.ground import points_of
from landweave.knots import knot_row
from landweave.plain import is_from, must_box_of

FAR = 3
FARTHEST = 8
MOST_POINTS = 1024


def things_in(land, box, *, salt, far=FAR, least=0):
    """The points of a box that bear a thing, in order."""
    must_box_of(box, MOST_POINTS)
    if not is_from(far, 1, FARTHEST):
        raise NoCount()
    x0, z0, x1, z1 = box
    grown = (x0 - far, z0 - far, x1 + far, z1 + far)
    ranks = ranks_of(land.seed(), salt, grown)
    greatest = greatest_near(ranks, far)
    lowest = least * points_of(grown)
    found = []
    for x, row in enumerate(greatest, x0):
        own = ranks[x - grown[0]]
        for z, rank in enumerate(row, z0):
            if own[z - grown[1]] == rank and rank >= lowest:
                found.append((x, z))
    return found


def ranks_of(seed, salt, box):
    """For each x of a box a list with, for each z, a number that is greater where the knot is.

    Of points with the same knot the first one in order has the greatest; of any knot no number is less
    than that knot taken as often as the box has points.
    """
    places = list(range(box[1], box[3] + 1))
    many = points_of(box)
    left = many
    ranks = []
    for x in range(box[0], box[2] + 1):
        knots = knot_row(seed, salt, x, places)
        ranks.append([many * knot + left - place for place, knot in enumerate(knots, 1)])
        left -= len(places)
    return ranks


def greatest_near(ranks, far):
    """For each number, but for those at the sides, the greatest one of all that are no more than FAR off."""
    wide = 2 * far + 1
    rows = [[max(row[at:at + wide]) for at in range(len(row) - 2 * far)] for row in ranks]
    found = []
    for at in range(len(rows) - 2 * far):
        near = rows[at:at + wide]
        found.append([max(column) for column in zip(*near)])
    return found
