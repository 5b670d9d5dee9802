"""Fields: rules that have a value at each point, the steps they come to, and their bounds.

Rules are looked at as they stand (must_parts), then each name is exchanged for what its let
holds (exchanged), then the fields that are left become steps (made_steps). All of this goes by
lists of what is still to do and not by calls within calls: names exchanged within names may lie
deeper than Python's calls should.
"""

from landweave.errors import NoRules
from landweave.knots import knot
from landweave.plain import ALL_POINTS, is_from, is_name, must_box, must_point

MOST_FIELDS = 200
MOST_SQUARES = 64
GREATEST_VALUE = 10 ** 30
GREATEST_KNOT = 65535

# What stands behind each word: a field, a name, or a number by its kind below.
SHAPES = {
    "whole": ("figures",),
    "x": (),
    "z": (),
    "noise": ("salt", "log"),
    "plus": ("field", "field"),
    "less": ("field", "field"),
    "times": ("field", "field"),
    "least": ("field", "field"),
    "most": ("field", "field"),
    "over": ("field", "divisor"),
    "below": ("field", "field", "field", "field"),
    "shift": ("offset", "offset", "field"),
    "let": ("name", "field", "field"),
    "name": ("name",),
}

NUMBERS = {
    "figures": (-999999999, 999999999),
    "salt": (0, 1000000000),
    "log": (0, 8),
    "divisor": (1, 1000000000),
    "offset": (-1000, 1000),
}


def must_rules(rules):
    """None, or a refusal with NoRules by the first fault of the rules."""
    steps_of(rules)


def value_at(rules, seed, x, z):
    """The value of the rules at the point (x, z)."""
    steps = steps_of(rules)
    must_point(x, z)
    return run_steps(steps, seed, x, z)


def steps_of(rules):
    """The rules as a list of steps in which nothing is reckoned twice; the last has their value."""
    must_parts(rules)
    steps = made_steps(exchanged(rules))
    for low, high in ranges_of(steps, 0, ALL_POINTS):
        if low < -GREATEST_VALUE or high > GREATEST_VALUE:
            raise NoRules((), "great")
    return steps


def run_steps(some, seed, x, z):
    """The value of the last of some steps at (x, z), which may lie beyond the land."""
    values = []
    for step in some:
        values.append(step_value(step, values, seed, x, z))
    return values[-1]


def bounds_of(rules, seed, box):
    """The least and the greatest value that the rules may have in a box: (LOW, HIGH)."""
    steps = steps_of(rules)
    must_box(box)
    return ranges_of(steps, seed, box)[-1]


# Rules as they stand.


def must_parts(rules):
    """Refuse rules by the first fault of a part, gone through from without, parts in order."""
    todo = [("field", rules, (), ())]
    while todo:
        kind, thing, path, names = todo.pop()
        if kind == "field":
            must_field(thing, path, names)
            for part in reversed(parts_of(thing, path, names)):
                todo.append(part)
        elif kind == "name":
            if not is_name(thing):
                raise NoRules(path, "name")
        elif not is_from(thing, NUMBERS[kind][0], NUMBERS[kind][1]):
            raise NoRules(path, "number")


def must_field(field, path, names):
    """Refuse what is no field by its word and how many things it has, or a name without a let."""
    if not is_shaped(field):
        raise NoRules(path, "kind")
    if field[0] == "name" and is_name(field[1]) and field[1] not in names:
        raise NoRules(path, "unbound")


def is_shaped(field):
    """Whether a field is a tuple of a word and as many things as this word has."""
    # A word that is no text might not do as a key, so it must not be looked up.
    if not isinstance(field, tuple) or not field or not isinstance(field[0], str):
        return False
    return field[0] in SHAPES and len(field) == 1 + len(SHAPES[field[0]])


def parts_of(field, path, names):
    """What stands behind the word of a field: kinds, things, paths and the names with a let there."""
    within = names
    if field[0] == "let":
        within = (*names, field[1])
    parts = []
    for place, kind in enumerate(SHAPES[field[0]], 1):
        # Only a let's last field stands within the let.
        bound = within if place == 3 else names
        parts.append((kind, field[place], (*path, place), bound))
    return parts


# Rules with lets and names exchanged.


def exchanged(rules):
    """The fields of rules, lets and names exchanged, parts ahead of wholes: (field, dx, dz).

    dx and dz are what the shifts around a field come to; shifts themselves are only counted.
    """
    found = []
    many = 0
    todo = [(rules, 0, 0, None)]
    while todo:
        field, dx, dz, lets = todo.pop()
        if field[0] == "let":
            todo.append((field[3], dx, dz, (field[1], field[2], lets)))
            continue
        if field[0] == "name":
            _, held, around = nearest_let(field[1], lets)
            todo.append((held, dx, dz, around))
            continue
        # To stop here is what keeps rules short that exchange names by the thousand.
        many += 1
        if many > MOST_FIELDS:
            raise NoRules((), "great")
        if field[0] == "shift":
            todo.append((field[3], dx + field[1], dz + field[2], lets))
            continue
        found.append((field, dx, dz))
        for kind, part in zip(SHAPES[field[0]], field[1:]):
            if kind == "field":
                todo.append((part, dx, dz, lets))
    # Each whole came ahead of its parts, and these from the last one to the first.
    return found[::-1]


def nearest_let(name, lets):
    """The nearest let of a name: the name, the field it holds, and the lets around that one."""
    while lets[0] != name:
        lets = lets[2]
    return lets


def made_steps(found):
    """The steps of fields that stand parts ahead of wholes, none twice."""
    steps = []
    numbers = {}
    ready = []
    for field, dx, dz in found:
        step = step_for(field, dx, dz, ready)
        if step not in numbers:
            numbers[step] = len(steps)
            steps.append(step)
        ready.append(numbers[step])
    return steps


def step_for(field, dx, dz, ready):
    """The step of a field; takes the numbers of its parts' steps from the end of ready."""
    word = field[0]
    if word == "x":
        return ("x", dx)
    if word == "z":
        return ("z", dz)
    if word == "noise":
        return ("noise", field[1], field[2], dx, dz)
    if word == "whole":
        return ("whole", field[1])
    start = len(ready) - SHAPES[word].count("field")
    numbers = ready[start:]
    del ready[start:]
    if word == "over":
        return ("over", numbers[0], field[2])
    return (word, *numbers)


# Values.


def step_value(step, values, seed, x, z):
    """The value of a step at (x, z), where values has those of all steps ahead."""
    word = step[0]
    if word == "whole":
        return step[1]
    if word == "x":
        return x + step[1]
    if word == "z":
        return z + step[1]
    if word == "noise":
        return noise_value(seed, step[1], step[2], x + step[3], z + step[4])
    if word == "over":
        return values[step[1]] // step[2]
    if word == "below":
        found = 3 if values[step[1]] < values[step[2]] else 4
        return values[step[found]]
    return joined_value(word, values[step[1]], values[step[2]])


def joined_value(word, one, other):
    """What a word of two fields makes of their values."""
    if word == "plus":
        return one + other
    if word == "less":
        return one - other
    if word == "times":
        return one * other
    if word == "least":
        return min(one, other)
    return max(one, other)


def noise_value(seed, salt, log, x, z):
    """The noise at (x, z): between the four knots around it by how near they are."""
    size = 1 << log
    i, p = divmod(x, size)
    j, q = divmod(z, size)
    near = (size - p) * knot(seed, salt, i, j) + p * knot(seed, salt, i + 1, j)
    far = (size - p) * knot(seed, salt, i, j + 1) + p * knot(seed, salt, i + 1, j + 1)
    return ((size - q) * near + q * far) // (size * size)


# Ranges.


def ranges_of(some, seed, box):
    """The range (LOW, HIGH) of each of some steps over a box."""
    ranges = []
    for step in some:
        ranges.append(step_range(step, ranges, seed, box))
    return ranges


def step_range(step, ranges, seed, box):
    """The range of a step over a box, where ranges has those of all steps ahead."""
    word = step[0]
    if word == "whole":
        return (step[1], step[1])
    if word == "x":
        return (box[0] + step[1], box[2] + step[1])
    if word == "z":
        return (box[1] + step[1], box[3] + step[1])
    if word == "noise":
        dx, dz = step[3], step[4]
        shifted = (box[0] + dx, box[1] + dz, box[2] + dx, box[3] + dz)
        return noise_range(seed, step[1], step[2], shifted)
    if word == "over":
        low, high = ranges[step[1]]
        return (low // step[2], high // step[2])
    if word == "below":
        return below_range([ranges[number] for number in step[1:]])
    return joined_range(word, ranges[step[1]], ranges[step[2]])


def below_range(parts):
    """The range of a below by those of its four fields."""
    one, other, then, otherwise = parts
    if one[1] < other[0]:
        return then
    if one[0] >= other[1]:
        return otherwise
    return (min(then[0], otherwise[0]), max(then[1], otherwise[1]))


def joined_range(word, one, other):
    """What a word of two fields makes of their ranges."""
    if word == "plus":
        return (one[0] + other[0], one[1] + other[1])
    if word == "less":
        return (one[0] - other[1], one[1] - other[0])
    if word == "least":
        return (min(one[0], other[0]), min(one[1], other[1]))
    if word == "most":
        return (max(one[0], other[0]), max(one[1], other[1]))
    products = [low * high for low in one for high in other]
    return (min(products), max(products))


def noise_range(seed, salt, log, box):
    """The range of noise over a box; of many squares only what no knot is beyond."""
    size = 1 << log
    columns = box[2] // size - box[0] // size + 1
    rows = box[3] // size - box[1] // size + 1
    if columns * rows > MOST_SQUARES:
        return (0, GREATEST_KNOT)
    # From one knot to the next noise goes straight, so it is least and greatest where the box
    # ends or a square begins.
    values = []
    for x in turns(box[0], box[2], size):
        for z in turns(box[1], box[3], size):
            values.append(noise_value(seed, salt, log, x, z))
    return (min(values), max(values))


def turns(low, high, size):
    """Both ends of a stretch from low to high, and where squares begin between them."""
    found = [low]
    for begin in range((low // size + 1) * size, high, size):
        found.append(begin)
    if high > low:
        found.append(high)
    return found
