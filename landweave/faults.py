"""The first fault of rules, gone through as they stand: what is at fault, and the way to it.

It is looked for only where rules are known to have one (landweave.fields looks at them in less time,
but can't tell which fault is the first). It goes by a list of what is still to do and not by calls
within calls, parts in their order.
"""

from landweave.errors import NoRules
from landweave.plain import is_from, is_name

# What stands behind each word: a field, a name, or a number by its kind below.
SHAPES = {
    "whole": ("figures",),
    "x": (),
    "z": (),
    "noise": ("salt", "log"),
    "plus": ("field", "field"),
    "less": ("field", "field"),
    "times": ("field", "field"),
    "least": ("field", "field"),
    "most": ("field", "field"),
    "over": ("field", "divisor"),
    "below": ("field", "field", "field", "field"),
    "shift": ("offset", "offset", "field"),
    "let": ("name", "field", "field"),
    "name": ("name",),
}

NUMBERS = {
    "figures": (-999999999, 999999999),
    "salt": (0, 1000000000),
    "log": (0, 8),
    "divisor": (1, 1000000000),
    "offset": (-1000, 1000),
}


def must_parts(rules):
    """Refuse rules by the first fault of a part, gone through from without, parts in order."""
    todo = [("field", rules, (), ())]
    while todo:
        kind, thing, path, names = todo.pop()
        if kind == "field":
            must_field(thing, path, names)
            for part in reversed(parts_of(thing, path, names)):
                todo.append(part)
        elif kind == "name":
            if not is_name(thing):
                raise NoRules(path, "name")
        elif not is_from(thing, NUMBERS[kind][0], NUMBERS[kind][1]):
            raise NoRules(path, "number")


def must_field(field, path, names):
    """Refuse what is no field by its word and how many things it has, or a name without a let."""
    if not is_shaped(field):
        raise NoRules(path, "kind")
    if field[0] == "name" and is_name(field[1]) and field[1] not in names:
        raise NoRules(path, "unbound")


def is_shaped(field):
    """Whether a field is a tuple of a word and as many things as this word has."""
    # A word that is no text might not do as a key, so it must not be looked up.
    if not isinstance(field, tuple) or not field or not isinstance(field[0], str):
        return False
    return field[0] in SHAPES and len(field) == 1 + len(SHAPES[field[0]])


def parts_of(field, path, names):
    """What stands behind the word of a field: kinds, things, paths and the names with a let there."""
    within = names
    if field[0] == "let":
        within = (*names, field[1])
    parts = []
    for place, kind in enumerate(SHAPES[field[0]], 1):
        # Only a let's last field stands within the let.
        bound = within if place == 3 else names
        parts.append((kind, field[place], (*path, place), bound))
    return parts
