"""Point 23 written out plainly a second time. Nothing here uses the package.

Rules are written straight; and a text is gone through sign by sign with all that may follow at once: each
of these is a pair (WHAT MAY COME NEXT, ALL BEHIND IT), None where the text may end.
"""

KINDS = {"noise": "NN", "plus": "FF", "less": "FF", "times": "FF", "least": "FF", "most": "FF", "over": "FN",
         "below": "FFFF", "shift": "NNF", "let": "WFF"}
LETTERS = "abcdefghijklmnopqrstuvwxyz"


def plain_text(rules):
    word = rules[0]
    if word in ("whole", "name"):
        return str(rules[1])
    if word in ("x", "z"):
        return word
    return word + "(" + ", ".join(plain_text(part) if type(part) is tuple else str(part) for part in rules[1:]) + ")"


def pushed(parts, rest):
    for part in reversed(parts):
        rest = (part, rest)
    return rest


def behind(state, sign):
    """All that may follow behind a sign."""
    if state is None:
        return
    top, rest = state
    if top == "F":
        yield from behind(("N", rest), sign)
        yield from behind(("W", rest), sign)
        for word, kinds in KINDS.items():
            if word[0] == sign:
                parts = list(word) + ["("] + [part for kind in kinds for part in (kind, ",", " ")][:-2] + [")"]
                yield pushed(parts[1:], rest)
    elif top == "N":
        if sign == "0":
            yield rest
        elif sign == "-":
            yield ("D1", rest)
        elif sign in "123456789":
            yield ("D", rest)
    elif top == "D1":
        if sign in "123456789":
            yield ("D", rest)
    elif top == "D":
        if sign in "0123456789":
            yield state
        yield from behind(rest, sign)
    elif top == "W":
        if sign in LETTERS:
            yield (7, rest)
    elif type(top) is int:
        if sign in LETTERS and top > 0:
            yield (top - 1, rest)
        yield from behind(rest, sign)
    elif top == sign:
        yield rest


def may_end(state):
    while state is not None and (state[0] == "D" or type(state[0]) is int):
        state = state[1]
    return state is None


def plain_spot(text):
    """The spot of the first sign at which no text of rules goes on so, or behind the last one; 0 of a whole text."""
    states = {("F", None)}
    for at, sign in enumerate(text, 1):
        states = {found for state in states for found in behind(state, sign)}
        if not states:
            return at
    return 0 if any(may_end(state) for state in states) else len(text) + 1
