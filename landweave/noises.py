"""Noise: it goes straight from knot to knot, at one point, at a grid of points, over a box."""

from landweave.knots import four_knots, knot, knot_row

MOST_SQUARES = 64
GREATEST_KNOT = 65535


def noise_value(seed, salt, log, x, z, known):
    """The noise at (x, z): between the four knots around it by how near they are.

    known has the knots around places that were asked for by this seed, and takes these; or it is None.
    """
    size = 1 << log
    i, j = x >> log, z >> log
    p, q = x & (size - 1), z & (size - 1)
    if p == 0 and q == 0:
        return knot(seed, salt, i, j)
    if known is None:
        knots = four_knots(seed, salt, i, j)
    else:
        knots = known.get((salt, i, j))
        if knots is None:
            knots = four_knots(seed, salt, i, j)
            known[(salt, i, j)] = knots
    one, two, three, four = knots
    near = (size - p) * one + p * two
    far = (size - p) * three + p * four
    return ((size - q) * near + q * far) >> (log + log)


def noise_grid(seed, salt, log, xs, zs):
    """The noise at each x of rising xs with each z of rising zs, in order, as one list."""
    if log == 0:
        return [value for x in xs for value in knot_row(seed, salt, x, zs)]
    size = 1 << log
    twice = log + log
    places, spots = knots_beside(log, zs)
    rows = {}
    values = []
    for x in xs:
        i, p = x >> log, x & (size - 1)
        if i not in rows:
            rows[i] = knot_row(seed, salt, i, places)
        near = rows[i]
        if p == 0:
            near = [one << log for one in near]
        else:
            if i + 1 not in rows:
                rows[i + 1] = knot_row(seed, salt, i + 1, places)
            near = [(one << log) + p * (two - one) for one, two in zip(near, rows[i + 1])]
        # Where q is 0 nothing is asked of the next one, so the last one's may be any.
        slopes = [high - low for low, high in zip(near, near[1:])] + [0]
        starts = [low << log for low in near]
        values += [(starts[at] + q * slopes[at]) >> twice for at, q in spots]
    return values


def knots_beside(log, zs):
    """The places of all knots that lie beside rising zs; for each z where in these its first one is, and q.

    Where q isn't 0 its second one comes next.
    """
    size = 1 << log
    places = []
    spots = []
    for z in zs:
        j, q = z >> log, z & (size - 1)
        if not places or places[-1] < j:
            places.append(j)
        # The last place is j, or j + 1 already, for the sake of the z before.
        low = len(places) - 1 - (places[-1] - j)
        if q and places[-1] == j:
            places.append(j + 1)
        spots.append((low, q))
    return places, spots


def noise_range(seed, salt, log, box):
    """The range (LOW, HIGH) of noise over a box; of many squares only what no knot is beyond."""
    x0, z0, x1, z1 = box
    squares = ((x1 >> log) - (x0 >> log) + 1) * ((z1 >> log) - (z0 >> log) + 1)
    if squares > MOST_SQUARES:
        return (0, GREATEST_KNOT)
    # From one knot to the next noise goes straight, so it is least and greatest where the box
    # ends or a square begins.
    if squares == 1:
        values = corner_values(seed, salt, log, box)
    else:
        values = noise_grid(seed, salt, log, turns(x0, x1, log), turns(z0, z1, log))
    return (min(values), max(values))


def corner_values(seed, salt, log, box):
    """The noise at the four corners of a box that lies in one square."""
    size = 1 << log
    x0, z0, x1, z1 = box
    one, two, three, four = four_knots(seed, salt, x0 >> log, z0 >> log)
    q0, q1 = z0 & (size - 1), z1 & (size - 1)
    values = []
    for p in (x0 & (size - 1), x1 & (size - 1)):
        near = ((size - p) * one + p * two) * size
        slope = (size - p) * three + p * four - (size - p) * one - p * two
        values.append((near + q0 * slope) >> (log + log))
        values.append((near + q1 * slope) >> (log + log))
    return values


def turns(low, high, log):
    """Both ends of a stretch from low to high, and where squares begin between them."""
    size = 1 << log
    found = [low]
    for begin in range(((low >> log) + 1) << log, high, size):
        found.append(begin)
    if high > low:
        found.append(high)
    return found
