"""Fields: rules that have a value at each point, the steps they come to, and their bounds.

Rules are weighed first, in one go (weighed): whether they have a fault, how many fields they are with
names exchanged, and how great their values might be. Only where that tells of a fault, the first one is
looked for (landweave.faults), and only where values might be too great, their ranges are. What is left
becomes steps (placed). Both go by calls within calls: fields lie at most 60 one within another, and
somewhat more do no harm.
"""

from landweave.errors import NoRules
from landweave.faults import must_parts
from landweave.noises import noise_range, noise_value
from landweave.plain import ALL_POINTS, is_from, is_name, must_box, must_point

MOST_FIELDS = 200
GREATEST_VALUE = 10 ** 30
BEYOND = 10 ** 30 + 1
PAIRS = ("plus", "less", "times", "least", "most")

# What the fields without a field in them weigh: one field, and no value beyond that number. Shifts put
# at most 200 times 1,000 to an x or z.
PLACE = (1, 1200000)
NOISE = (1, 65535)


def must_rules(rules):
    """None, or a refusal with NoRules by the first fault of the rules."""
    if greatest_of(rules) > GREATEST_VALUE:
        steps_of(rules)


def value_at(rules, seed, x, z):
    """The value of the rules at the point (x, z)."""
    steps = steps_of(rules)
    must_point(x, z)
    return run_steps(steps, seed, x, z)


def steps_of(rules):
    """The rules as a list of steps in which nothing is reckoned twice; the last has their value."""
    greatest = greatest_of(rules)
    made = {}
    placed(rules, 0, 0, {}, made)
    steps = list(made)
    if greatest > GREATEST_VALUE:
        must_ranges(steps)
    return steps


def run_steps(some, seed, x, z):
    """The value of the last of some steps at (x, z), which may lie beyond the land."""
    return run_known(some, seed, x, z, None)


def bounds_of(rules, seed, box):
    """The least and the greatest value that the rules may have in a box: (LOW, HIGH)."""
    steps = steps_of(rules)
    must_box(box)
    return steps_range(steps, seed, box)


# Rules weighed.


def greatest_of(rules):
    """What no value within some rules is beyond; refuses them by a fault, or for too many fields."""
    try:
        many, greatest = weighed(rules, {})
    except NoRules:
        must_parts(rules)
        raise
    if many > MOST_FIELDS:
        raise NoRules((), "great")
    return greatest


def weighed(field, lets):
    """How many fields a field is, names exchanged, and a number that no value in it is beyond.

    lets has what is told of the A of each let around. A fault is refused without telling which.
    """
    if not isinstance(field, tuple):
        raise NoRules()
    things = len(field)
    if things == 3:
        word, one, other = field
        if word in PAIRS:
            many, great = weighed(one, lets)
            more, greater = weighed(other, lets)
            if word == "times":
                # Names within names may come to numbers without end.
                return many + more + 1, min(great * greater, BEYOND)
            return many + more + 1, great + greater
        if word == "noise" and is_from(one, 0, 1000000000) and is_from(other, 0, 8):
            return NOISE
        if word == "over" and is_from(other, 1, 1000000000):
            many, great = weighed(one, lets)
            return many + 1, great
    elif things == 1:
        if field[0] == "x" or field[0] == "z":
            return PLACE
    elif things == 2:
        word, one = field
        if word == "whole" and is_from(one, -999999999, 999999999):
            return 1, abs(one) + 1
        if word == "name" and isinstance(one, str) and one in lets:
            return lets[one]
    elif things > 3:
        return weighed_long(field, lets)
    raise NoRules()


def weighed_long(field, lets):
    """What is told by weighed, of a field of more than three things."""
    word = field[0]
    if len(field) == 4:
        _, one, other, part = field
        if word == "let" and is_name(one):
            return weighed(part, {**lets, one: weighed(other, lets)})
        if word == "shift" and is_from(one, -1000, 1000) and is_from(other, -1000, 1000):
            many, great = weighed(part, lets)
            return many + 1, great
    elif len(field) == 5 and word == "below":
        weights = [weighed(part, lets) for part in field[1:]]
        return 1 + sum([many for many, _ in weights]), sum([great for _, great in weights])
    raise NoRules()


def must_ranges(steps):
    """Refuse rules whose steps have a range that goes too far."""
    for low, high in ranges_of(steps, 0, ALL_POINTS):
        if low < -GREATEST_VALUE or high > GREATEST_VALUE:
            raise NoRules((), "great")


# Steps.


def placed(field, dx, dz, lets, made):
    """The number of a field's step, put behind the steps made so far where it isn't among them.

    dx and dz are what the shifts around the field come to; lets has, of each let around, its A and the
    lets around that one.
    """
    word = field[0]
    while word == "let" or word == "name":
        if word == "let":
            lets = {**lets, field[1]: (field[2], lets)}
            field = field[3]
        else:
            field, lets = lets[field[1]]
        word = field[0]
    if word in PAIRS:
        one = placed(field[1], dx, dz, lets, made)
        step = (word, one, placed(field[2], dx, dz, lets, made))
    elif word == "noise":
        step = (word, field[1], field[2], dx, dz)
    elif word == "x":
        step = (word, dx)
    elif word == "z":
        step = (word, dz)
    elif word == "whole":
        step = (word, field[1])
    elif word == "over":
        step = (word, placed(field[1], dx, dz, lets, made), field[2])
    elif word == "shift":
        return placed(field[3], dx + field[1], dz + field[2], lets, made)
    else:
        step = (word, *[placed(part, dx, dz, lets, made) for part in field[1:]])
    return made.setdefault(step, len(made))


# Values.


def run_known(some, seed, x, z, known):
    """What run_steps tells; known has the knots that were asked for by this seed, or is None."""
    values = []
    for step in some:
        word = step[0]
        if word == "noise":
            value = noise_value(seed, step[1], step[2], x + step[3], z + step[4], known)
        elif word == "plus":
            value = values[step[1]] + values[step[2]]
        elif word == "whole":
            value = step[1]
        elif word == "x":
            value = x + step[1]
        elif word == "z":
            value = z + step[1]
        elif word == "over":
            value = values[step[1]] // step[2]
        elif word == "less":
            value = values[step[1]] - values[step[2]]
        elif word == "times":
            value = values[step[1]] * values[step[2]]
        elif word == "least":
            value = min(values[step[1]], values[step[2]])
        elif word == "most":
            value = max(values[step[1]], values[step[2]])
        else:
            value = values[step[3] if values[step[1]] < values[step[2]] else step[4]]
        values.append(value)
    return values[-1]


# Ranges.


def steps_range(steps, seed, box):
    """The range (LOW, HIGH) of the last of some steps over a box."""
    if box[0] == box[2] and box[1] == box[3]:
        value = run_steps(steps, seed, box[0], box[1])
        return (value, value)
    return ranges_of(steps, seed, box)[-1]


def ranges_of(some, seed, box):
    """The range (LOW, HIGH) of each of some steps over a box."""
    x0, z0, x1, z1 = box
    ranges = []
    for step in some:
        word = step[0]
        if word == "noise":
            dx, dz = step[3], step[4]
            found = noise_range(seed, step[1], step[2], (x0 + dx, z0 + dz, x1 + dx, z1 + dz))
        elif word == "whole":
            found = (step[1], step[1])
        elif word == "x":
            found = (x0 + step[1], x1 + step[1])
        elif word == "z":
            found = (z0 + step[1], z1 + step[1])
        elif word == "over":
            low, high = ranges[step[1]]
            found = (low // step[2], high // step[2])
        elif word == "below":
            found = below_range([ranges[number] for number in step[1:]])
        else:
            found = joined_range(word, ranges[step[1]], ranges[step[2]])
        ranges.append(found)
    return ranges


def below_range(parts):
    """The range of a below by those of its four fields."""
    one, other, then, otherwise = parts
    if one[1] < other[0]:
        return then
    if one[0] >= other[1]:
        return otherwise
    return (min(then[0], otherwise[0]), max(then[1], otherwise[1]))


def joined_range(word, one, other):
    """What a word of two fields makes of their ranges."""
    low, high = one
    least, most = other
    if word == "plus":
        return (low + least, high + most)
    if word == "less":
        return (low - most, high - least)
    if word == "least":
        return (low if low < least else least, high if high < most else most)
    if word == "most":
        return (low if low > least else least, high if high > most else most)
    products = (low * least, low * most, high * least, high * most)
    return (min(products), max(products))
