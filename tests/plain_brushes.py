"""Point 22 written out plainly a second time. Nothing here uses the package."""

THINGS = {"move": 2, "mark": 4, "often": 2, "if": 3}


def is_number(thing, low, high):
    return type(thing) is int and low <= thing <= high


def plain_fault(brush):
    """The first fault of a brush, as (PATH, WHY), or None."""
    fault = fault_of_rows(brush, ())
    if fault is None and (marks_of(brush) > 60 or rows_of(brush) > 2000):
        return ((), "great")
    return fault


def fault_of_rows(rows, path):
    if type(rows) is not list:
        return (path, "kind")
    for number, row in enumerate(rows):
        fault = fault_of_row(row, path + (number,))
        if fault is not None:
            return fault
    return None


def fault_of_row(row, path):
    if type(row) is not tuple or not row or type(row[0]) is not str or THINGS.get(row[0]) != len(row) - 1:
        return (path, "kind")
    far, figures = (-100, 100), (-10 ** 9 + 1, 10 ** 9 - 1)
    numbers = {"move": (far, far), "mark": (None, (1, 50), (1, 50), figures), "often": ((0, 20), None),
               "if": (figures, None, None)}[row[0]]
    for place, bounds in enumerate(numbers, 1):
        if bounds is not None:
            if not is_number(row[place], *bounds):
                return (path + (place,), "number")
        elif row[0] == "mark":
            if type(row[1]) is not str or row[1] not in ("set", "raise", "least", "most"):
                return (path + (1,), "kind")
        else:
            fault = fault_of_rows(row[place], path + (place,))
            if fault is not None:
                return fault
    return None


def marks_of(rows):
    return sum(1 if row[0] == "mark" else row[1] * marks_of(row[2]) if row[0] == "often"
               else max(marks_of(row[2]), marks_of(row[3])) if row[0] == "if" else 0 for row in rows)


def rows_of(rows):
    return sum(1 + (row[1] * rows_of(row[2]) if row[0] == "often"
                    else max(rows_of(row[2]), rows_of(row[3])) if row[0] == "if" else 0) for row in rows)


def all_ways(rows):
    """All that rows can do, whichever way each if goes each time: (END, POINTS of marks), from (0, 0) on."""
    ways = {((0, 0), frozenset())}
    for row in rows:
        ways = {behind for way in ways for behind in ways_of_row(row, way)}
    return ways


def ways_of_row(row, way):
    (x, z), points = way
    if row[0] == "move":
        return {((x + row[1], z + row[2]), points)}
    if row[0] == "mark":
        # Of a box's points the two corners tell how far it goes.
        return {((x, z), points | {(x, z), (x + row[2] - 1, z + row[3] - 1)})}
    parts = [row[2]] * row[1] if row[0] == "often" else None
    found = {way}
    for part in ([parts] if parts is None else parts):
        turns = all_ways(row[2]) | all_ways(row[3]) if part is None else all_ways(part)
        found = {((a + b, c + d), marks | {(a + p, c + q) for p, q in more})
                 for (a, c), marks in found for (b, d), more in turns}
    return found


def plain_reach(brush):
    points = {point for _, marks in all_ways(brush) for point in marks}
    if not points:
        return None
    xs, zs = zip(*points)
    return (min(xs), min(zs), max(xs), max(zs))


def plain_marks(height, brush, x, z):
    """The edits that a brush makes from (x, z) on; height tells the height anywhere ahead of it."""
    marks = []

    def now(x, z):
        found = height(x, z)
        for word, box, number in marks:
            if box[0] <= x <= box[2] and box[1] <= z <= box[3]:
                found = {"set": number, "raise": found + number, "least": max(found, number),
                         "most": min(found, number)}[word]
        return found

    def go(rows, x, z):
        for row in rows:
            if row[0] == "move":
                x, z = x + row[1], z + row[2]
            elif row[0] == "mark":
                marks.append((row[1], (x, z, x + row[2] - 1, z + row[3] - 1), row[4]))
            elif row[0] == "often":
                for _ in range(row[1]):
                    x, z = go(row[2], x, z)
            else:
                x, z = go(row[2] if now(x, z) >= row[1] else row[3], x, z)
        return x, z
    go(brush, x, z)
    return marks
