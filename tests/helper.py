"""What the tests share: the document's words, written out plainly a second time, and rules by chance.

Nothing here uses the package, so that an answer of the package is held against another one.
"""

import contextlib
import itertools
import random
import sys

LAND = (-10 ** 6, -10 ** 6, 10 ** 6, 10 ** 6)
PAIRS = ("plus", "less", "times", "least", "most")
FIELD_PLACES = {"over": (1,), "below": (1, 2, 3, 4), "shift": (3,), "let": (2, 3)}
FIELD_PLACES.update({word: (1, 2) for word in PAIRS})


@contextlib.contextmanager
def within_calls(most):
    """Fail where what is done within takes more calls; without it an endless answer would hang.

    Calls are counted and not seconds, so that no test hangs on how fast a machine is.
    """
    many = 0

    def count(_, event, __):
        nonlocal many
        many += event in ("call", "c_call")
        if many > most:
            raise AssertionError(f"more than {most} calls")
    before = sys.getprofile()
    sys.setprofile(count)
    try:
        yield
    finally:
        sys.setprofile(before)


def plain_knot(seed, salt, i, j):
    a = (seed + 48271 * salt + 7) % 2147483647
    b = (a * a + 69621 * i + 1) % 2147483629
    c = (b * b + 16807 * j + 1) % 2147483587
    return ((c * c + c) % 2147483579) % 65536


def plain_noise(salt, log, seed, x, z):
    size = 2 ** log
    i, j = x // size, z // size
    p, q = x % size, z % size
    whole = (size - p) * (size - q) * plain_knot(seed, salt, i, j)
    whole += p * (size - q) * plain_knot(seed, salt, i + 1, j)
    whole += (size - p) * q * plain_knot(seed, salt, i, j + 1)
    whole += p * q * plain_knot(seed, salt, i + 1, j + 1)
    return whole // (size * size)


def bare(rules, lets=()):
    """The rules with each let exchanged for its B and each name for its let's A."""
    word = rules[0]
    if word == "let":
        return bare(rules[3], ((rules[1], rules[2], lets),) + lets)
    if word == "name":
        held = next(let for let in lets if let[0] == rules[1])
        return bare(held[1], held[2])
    places = FIELD_PLACES.get(word, ())
    return tuple(bare(part, lets) if at in places else part for at, part in enumerate(rules))


def count_of(field):
    """How many fields a bare field has."""
    return 1 + sum(count_of(field[at]) for at in FIELD_PLACES.get(field[0], ()))


def plain_value(rules, seed, x, z):
    """The value of rules, straight by point 6."""
    return bare_value(bare(rules), seed, x, z)


def bare_value(field, seed, x, z):
    word = field[0]
    if word == "shift":
        return bare_value(field[3], seed, x + field[1], z + field[2])
    if word == "noise":
        return plain_noise(field[1], field[2], seed, x, z)
    if word in ("whole", "x", "z"):
        return {"whole": field[-1], "x": x, "z": z}[word]
    parts = [bare_value(field[at], seed, x, z) for at in FIELD_PLACES[word]]
    if word == "over":
        return parts[0] // field[2]
    if word == "below":
        return parts[2] if parts[0] < parts[1] else parts[3]
    one, other = parts
    return {"plus": one + other, "less": one - other, "times": one * other,
            "least": min(one, other), "most": max(one, other)}[word]


def points_in(box):
    return itertools.product(range(box[0], box[2] + 1), range(box[1], box[3] + 1))


def plain_range(field, seed, box):
    """The range of a bare field, straight by point 9; of few squares all points are looked at."""
    word = field[0]
    if word == "shift":
        dx, dz = field[1:3]
        return plain_range(field[3], seed, (box[0] + dx, box[1] + dz, box[2] + dx, box[3] + dz))
    if word == "noise":
        size = 2 ** field[2]
        squares = (box[2] // size - box[0] // size + 1) * (box[3] // size - box[1] // size + 1)
        if squares > 64:
            return (0, 65535)
        values = [plain_noise(field[1], field[2], seed, x, z) for x, z in points_in(box)]
        return (min(values), max(values))
    if word in ("whole", "x", "z"):
        return {"whole": (field[-1], field[-1]), "x": box[0::2], "z": box[1::2]}[word]
    parts = [plain_range(field[at], seed, box) for at in FIELD_PLACES[word]]
    (low, high), (least, most) = parts[0], parts[-1]
    if word == "over":
        return (low // field[2], high // field[2])
    if word == "below":
        if parts[0][1] < parts[1][0]:
            return parts[2]
        if parts[0][0] >= parts[1][1]:
            return parts[3]
        return (min(parts[2][0], parts[3][0]), max(parts[2][1], parts[3][1]))
    products = (low * least, low * most, high * least, high * most)
    return {"plus": (low + least, high + most), "less": (low - most, high - least),
            "times": (min(products), max(products)),
            "least": (min(low, least), min(high, most)),
            "most": (max(low, least), max(high, most))}[word]


def plain_steps(rules):
    """The steps of rules, straight by point 8."""
    steps = []
    put_steps(bare(rules), 0, 0, steps)
    return steps


def put_steps(field, dx, dz, steps):
    word = field[0]
    if word == "shift":
        return put_steps(field[3], dx + field[1], dz + field[2], steps)
    ends = {"x": (dx,), "z": (dz,), "noise": (dx, dz)}.get(word, ())
    places = FIELD_PLACES.get(word, ())
    step = tuple(put_steps(part, dx, dz, steps) if at in places else part
                 for at, part in enumerate(field)) + ends
    if step not in steps:
        steps.append(step)
    return steps.index(step)


def plain_height(rules, seed, edits, x, z):
    """A land's height, straight by points 10 and 13, going back from the last edit."""
    if not edits:
        return bare_value(bare(rules), seed, x, z)
    *ahead, (word, box, *things) = edits
    if not (box[0] <= x <= box[2] and box[1] <= z <= box[3]):
        return plain_height(rules, seed, ahead, x, z)
    if word == "set":
        return things[0]
    if word == "field":
        return bare_value(bare(things[0]), seed, x, z)
    if word == "copy":
        return plain_height(rules, seed, ahead, x + things[0], z + things[1])
    height = plain_height(rules, seed, ahead, x, z)
    return {"raise": height + things[0], "least": max(height, things[0]), "most": min(height, things[0])}[word]


class PlainDeeds:
    """What stands behind deeds, straight by point 14: a list of [NUMBER, EDIT] for each time."""

    def __init__(self):
        self.rows = []
        self.next = 1
        self.done = []
        self.undone = []

    def do(self, rows, used=0):
        self.done.append((self.rows, rows))
        self.undone = []
        self.rows = rows
        self.next += used

    def put(self, edits, rows=None):
        rows = list(self.rows if rows is None else rows)
        return rows + [(self.next + at, edit) for at, edit in enumerate(edits)]

    def edit(self, edit):
        self.do(self.put([edit]), 1)
        return self.next - 1

    def without(self, number, rows=None):
        return [row for row in (self.rows if rows is None else rows) if row[0] != number]

    def swapped(self, one, other, rows=None):
        rows = list(self.rows if rows is None else rows)
        numbers = [row[0] for row in rows]
        a, b = numbers.index(one), numbers.index(other)
        rows[a], rows[b] = rows[b], rows[a]
        return rows

    def back(self):
        self.undone.append(self.done.pop())
        self.rows = self.undone[-1][0]

    def again(self):
        self.done.append(self.undone.pop())
        self.rows = self.done[-1][1]


class PlainCave:
    """A cave, straight by point 16: each cell is looked at by itself, kept only for the sake of time."""

    def __init__(self, rules, seed, cut=32768, rounds=2, need=14):
        self.field, self.seed = bare(rules), seed
        self.cut, self.rounds, self.need = cut, rounds, need
        self.deeds = []
        self.known = {}

    def first(self, rounds, x, y, z):
        key = (rounds, x, y, z)
        if key not in self.known:
            if rounds == 0:
                rock = bare_value(self.field, self.seed + y, x, z) >= self.cut
            else:
                around = itertools.product((x - 1, x, x + 1), (y - 1, y, y + 1), (z - 1, z, z + 1))
                rock = sum(self.first(rounds - 1, *cell) for cell in around) >= self.need
            self.known[key] = rock
        return self.known[key]

    def is_rock(self, x, y, z):
        for rock, room in reversed(self.deeds):
            if room[0] <= x <= room[3] and room[1] <= y <= room[4] and room[2] <= z <= room[5]:
                return rock
        return self.first(self.rounds, x, y, z)

    def block(self, room):
        x0, y0, z0, x1, y1, z1 = room
        return [["".join(".#"[self.is_rock(x, y, z)] for x in range(x0, x1 + 1)) for z in range(z0, z1 + 1)]
                for y in range(y0, y1 + 1)]


def cells_in(room):
    return itertools.product(*(range(room[at], room[at + 3] + 1) for at in (0, 1, 2)))


def touching(cell):
    """The six cells beside a cell."""
    for at in (0, 1, 2):
        for by in (-1, 1):
            yield tuple(part + by * (at == place) for place, part in enumerate(cell))


def plain_lots(cave, room):
    """The lots of open cells of a room, straight by point 17."""
    left = {cell for cell in cells_in(room) if not cave.is_rock(*cell)}
    lots = []
    while left:
        lot, todo = set(), [min(left)]
        while todo:
            cell = todo.pop()
            if cell in left:
                left.discard(cell)
                lot.add(cell)
                todo.extend(touching(cell))
        lots.append(sorted(lot))
    return lots


def plain_way(cells, one, other):
    """How many cells the shortest way has from one open cell to another, or None."""
    known, row, many = {one}, [one], 1
    while row:
        if other in row:
            return many
        row = sorted({near for cell in row for near in touching(cell) if near in cells} - known)
        known.update(row)
        many += 1
    return None


class Chance:
    """Rules, points and boxes by chance, the same ones from the same number."""

    def __init__(self, number):
        self.random = random.Random(number)

    def rules(self, deep, names=()):
        """A field at most so deep, with names only where they have a let."""
        pick = self.random
        if deep == 0 or pick.random() < 0.1:
            return self.end(names)
        word = pick.choice(PAIRS + ("over", "below", "shift", "let", "let", "shift"))
        part = deep - 1
        if word == "over":
            return (word, self.rules(part, names), pick.choice((1, 2, 3, 7, 1000, 10 ** 9)))
        if word == "below":
            return (word, *(self.rules(min(part, 2), names) for _ in range(4)))
        if word == "shift":
            return (word, pick.randint(-1000, 1000), pick.randint(-9, 9), self.rules(part, names))
        if word == "let":
            name = pick.choice(("a", "b", "zz"))
            return (word, name, self.rules(part, names), self.rules(part, names + (name, name)))
        return (word, self.rules(part, names), self.rules(part, names))

    def end(self, names):
        pick = self.random
        if names and pick.random() < 0.5:
            return ("name", pick.choice(names))
        return pick.choice((("x",), ("z",), ("whole", pick.randint(-999, 999)),
                            ("noise", pick.choice((0, 1, 10 ** 9)), pick.randint(0, 8))))

    def many_rules(self, many, deep):
        """So many rules that aren't too great."""
        found = []
        while len(found) < many:
            rules = self.rules(deep)
            if count_of(bare(rules)) <= 60 and is_within(bare(rules), LAND):
                found.append(rules)
        return found

    def seed(self):
        return self.random.choice((0, 1, 7, 10 ** 9, self.random.randint(0, 10 ** 9)))

    def point(self):
        pick = self.random
        far = pick.choice((0, 3, 300, 10 ** 6))
        ends = (-10 ** 6, 10 ** 6)
        if pick.random() < 0.1:
            return (pick.choice(ends), pick.choice(ends))
        return (pick.randint(-far, far), pick.randint(-far, far))

    def box(self, most):
        """A box at most so long either way."""
        x, z = self.point()
        wide, deep = self.random.randint(1, most), self.random.randint(1, most)
        return (max(x - wide + 1, -10 ** 6), max(z - deep + 1, -10 ** 6), x, z)

    def edit(self, box, rules):
        """An edit of a part of a box, its rules one of some."""
        pick = self.random
        word = pick.choice(("set", "raise", "least", "most", "field", "copy", "copy"))
        part = self.part(box) if pick.random() < 0.9 else box
        if word == "copy":
            return (word, part, pick.randint(-9, 9), pick.choice((0, 1, -3, 1000, pick.randint(-9, 9))))
        return (word, part, pick.choice(rules) if word == "field" else pick.randint(-900, 900))

    def edits(self, many, box, rules):
        return [self.edit(box, rules) for _ in range(many)]

    def part(self, box):
        """A box within a box."""
        xs = sorted(self.random.randint(box[0], box[2]) for _ in range(2))
        zs = sorted(self.random.randint(box[1], box[3]) for _ in range(2))
        return (xs[0], zs[0], xs[1], zs[1])


def is_within(field, box):
    """Whether the ranges of a bare field and of all within it are from -10 ** 30 to 10 ** 30."""
    if field[0] == "shift":
        dx, dz = field[1:3]
        box = (box[0] + dx, box[1] + dz, box[2] + dx, box[3] + dz)
    low, high = plain_range(field, 0, box) if field[0] != "shift" else (0, 0)
    if not -10 ** 30 <= low <= high <= 10 ** 30:
        return False
    return all(is_within(field[at], box) for at in FIELD_PLACES.get(field[0], ()))


def deep_in(field, many, around):
    """A field so many fields deep, each put around the one before by a function."""
    for _ in range(many):
        field = around(field)
    return field
