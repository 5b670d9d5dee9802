"""Texts: rules written and read, a land saved and read.

Rules are read sign by sign, so that a text that isn't so is refused where it goes wrong, and by a list of
open brackets and not by calls within calls, so that any number of them may stand within one another.
"""

from landweave.errors import LandError, NoRules, NoText
from landweave.faults import SHAPES
from landweave.fields import must_rules
from landweave.land import Land
from landweave.plain import LONGEST_NAME, is_from

BRACKETS = ("noise", "plus", "less", "times", "least", "most", "over", "below", "shift", "let")
PLACES = ("x", "z")
MOST_BRACKETS = 60
GREATEST_SEED = 1000000000
GREATEST_NUMBER = 1000000000
FIRST_EDIT = 3

# No number of rules or of a save has more figures, and none is so great.
MOST_FIGURES = 10
BEYOND = 10 ** 30


# Rules.


def show_rules(rules):
    """The text of some rules."""
    must_rules(rules)
    return text_of("field", rules)


def text_of(kind, thing):
    """The text of a field, of a name or of a number."""
    if kind == "name":
        return thing
    if kind != "field":
        return str(thing)
    word = thing[0]
    if word == "whole":
        return str(thing[1])
    if word == "name":
        return thing[1]
    if word in PLACES:
        return word
    parts = [text_of(part, thing[place]) for place, part in enumerate(SHAPES[word], 1)]
    return word + "(" + ", ".join(parts) + ")"


def read_rules(text):
    """The rules of a text, or a refusal with NoText."""
    rules, is_fit = read_field(text)
    if not is_fit:
        raise NoText(1, 0)
    try:
        must_rules(rules)
    except NoRules:
        raise NoText(1, 0) from None
    return rules


def read_field(text):
    """The field of a text, and whether its brackets and names may be those of rules."""
    field = None
    is_fit = True
    opened = []
    at, kind = 0, "field"
    while field is None:
        part, at = read_part(text, at, kind)
        if kind == "name" and part in PLACES:
            is_fit = False
        if isinstance(part, list):
            opened.append(part)
            if len(opened) > MOST_BRACKETS:
                is_fit = False
        else:
            field, at = closed(text, at, part, opened)
        if field is None:
            kind = SHAPES[opened[-1][0]][len(opened[-1]) - 1]
    if at < len(text):
        raise NoText(1, at + 1)
    return field, is_fit


def read_part(text, at, kind):
    """What begins at a place, and the place behind it: a name, a number, a field; of brackets [WORD]."""
    if kind == "name":
        return read_word(text, at)
    if kind != "field":
        return read_number(text, at)
    if not is_letter(text[at:at + 1]):
        number, at = read_number(text, at)
        return ("whole", number), at
    word, at = read_word(text, at)
    if word in BRACKETS and text[at:at + 1] == "(":
        return [word], at + 1
    return (word,) if word in PLACES else ("name", word), at


def closed(text, at, part, opened):
    """Put a part into the last open bracket, and close those that are full by it.

    Tells the part that is in no bracket, or None where another one must follow, and the place behind.
    """
    while opened:
        opened[-1].append(part)
        if len(opened[-1]) <= len(SHAPES[opened[-1][0]]):
            return None, behind(text, at, ", ")
        at = behind(text, at, ")")
        part = tuple(opened.pop())
    return part, at


def behind(text, at, signs):
    """The place behind signs that must stand at a place."""
    for sign in signs:
        if text[at:at + 1] != sign:
            raise NoText(1, at + 1)
        at += 1
    return at


def read_word(text, at):
    """The word of small letters that begins at a place, and the place behind it."""
    end = at
    while end - at < LONGEST_NAME and is_letter(text[end:end + 1]):
        end += 1
    if end == at:
        raise NoText(1, at + 1)
    return text[at:end], end


def is_letter(sign):
    """Whether a sign, or none at the end of a text, is a small letter."""
    return "a" <= sign <= "z"


def read_number(text, at):
    """The number that begins at a place, and the place behind it."""
    end = at
    if text[end:end + 1] == "-":
        end += 1
    elif text[end:end + 1] == "0":
        return 0, end + 1
    if not "1" <= text[end:end + 1] <= "9":
        raise NoText(1, end + 1)
    while "0" <= text[end:end + 1] <= "9":
        end += 1
    # Python doesn't take any count of figures for a number.
    return int(text[at:end]) if end - at <= 1 + MOST_FIGURES else BEYOND, end


# Words of edits, as they stand in saves and at desks.

# How many words an edit has, but for a field: that one's TEXT may have any number of them.
LENGTHS = {"set": 6, "raise": 6, "least": 6, "most": 6, "copy": 7}


def is_number(word, figures):
    """Whether a word is a number of at most so many figures."""
    own = word[1:] if word.startswith("-") else word
    if not own.isascii() or not own.isdigit() or len(own) > figures:
        return False
    return word == "0" or own[0] != "0"


def is_edit(words, figures):
    """Whether words are as an edit's are: WORD X0 Z0 X1 Z1 and what belongs to it, whatever its TEXT."""
    if words[0] == "field":
        return len(words) > 5 and all([is_number(word, figures) for word in words[1:5]])
    if words[0] not in LENGTHS or len(words) != LENGTHS[words[0]]:
        return False
    return all([is_number(word, figures) for word in words[1:]])


def edit_of(words):
    """The edit of such words; a TEXT that is none is refused with NoText."""
    box = tuple([int(word) for word in words[1:5]])
    if words[0] == "field":
        return ("field", box, read_rules(" ".join(words[5:])))
    return (words[0], box, *[int(word) for word in words[5:]])


# Saves.


def saved(land):
    """The text of a land."""
    rows = [f"land {land.seed()}", "rules " + show_rules(land.rules())]
    for number, edit in land.edits():
        words = ["edit", str(number), edit[0], *[str(part) for part in edit[1]]]
        if edit[0] == "field":
            words.append(show_rules(edit[2]))
        else:
            words.extend([str(part) for part in edit[2:]])
        rows.append(" ".join(words))
    return "\n".join(rows)


def read_land(text):
    """The land of a text, or a refusal with NoText."""
    rows = text.split("\n")
    land = land_of(rows)
    for place, row in enumerate(rows[FIRST_EDIT - 1:], FIRST_EDIT):
        take_row(land, row, place)
    return land


def land_of(rows):
    """The land of the first two rows of a save, without edits."""
    words = rows[0].split(" ")
    if len(words) != 2 or words[0] != "land" or not is_number(words[1], MOST_FIGURES):
        raise NoText(1, 0)
    if not is_from(int(words[1]), 0, GREATEST_SEED):
        raise NoText(1, 0)
    if len(rows) < 2 or not rows[1].startswith("rules "):
        raise NoText(2, 0)
    try:
        rules = read_rules(rows[1][len("rules "):])
    except NoText:
        raise NoText(2, 0) from None
    return Land(rules, int(words[1]))


def take_row(land, row, place):
    """Let a land take the edit of a save's row."""
    words = row.split(" ")
    if words[0] != "edit" or len(words) < 3 or not is_number(words[1], MOST_FIGURES):
        raise NoText(place, 0)
    number = int(words[1])
    if not is_from(number, 1, GREATEST_NUMBER) or number in [told for told, _ in land.edits()]:
        raise NoText(place, 0)
    if not is_edit(words[2:], MOST_FIGURES):
        raise NoText(place, 0)
    try:
        land.take(number, edit_of(words[2:]))
    except LandError:
        raise NoText(place, 0) from None
