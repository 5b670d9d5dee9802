"""A desk: lines of words that ask one land, or change it, and the texts that answer them."""

from landweave.errors import NoLine
from landweave.land import Land, needless
from landweave.sight import sees
from landweave.squares import highest, square_at, tall
from landweave.texts import edit_of, is_edit, is_number, read_rules, saved
from landweave.water import poured
from landweave.ways import route

MOST_FIGURES = 9


# Answers, by the word of the line.


def say_drop(land, number):
    """Drop an edit."""
    land.drop(number)
    return "ok"


def say_swap(land, one, other):
    """Swap two edits."""
    land.swap(one, other)
    return "ok"


def say_back(land):
    """Take a deed back."""
    land.back()
    return "ok"


def say_again(land):
    """Do a deed again."""
    land.again()
    return "ok"


def say_edits(land):
    """The numbers and words of all edits."""
    return joined([f"{number} {edit[0]}" for number, edit in land.edits()], ", ")


def say_height(land, x, z):
    """The height at a point."""
    return str(land.height(x, z))


def say_bounds(land, x0, z0, x1, z1):
    """The bounds of a box."""
    return numbers_text(land.bounds((x0, z0, x1, z1)))


def say_square(land, level, i, j):
    """What is told of a square."""
    return numbers_text(square_at(land, level, i, j))


def say_tall(land, x0, z0, x1, z1, least):
    """The points of a box that are so high."""
    points = tall(land, (x0, z0, x1, z1), least=least)[1]
    return joined([numbers_text(point) for point in points], ", ")


def say_highest(land, x0, z0, x1, z1):
    """The highest point of a box, and its height."""
    _, point, height, _ = highest(land, (x0, z0, x1, z1))
    return numbers_text((*point, height))


def say_route(land, x0, z0, x1, z1, x, z, to_x, to_z):
    """The price of a route."""
    return str(route(land, (x0, z0, x1, z1), (x, z), (to_x, to_z))[2])


def say_pour(land, x0, z0, x1, z1, x, z, level):
    """What becomes of water."""
    told = poured(land, (x0, z0, x1, z1), (x, z), level)
    return f"holds {len(told[1])}" if told[0] == "holds" else told[0]


def say_sees(land, x, z, to_x, to_z):
    """Whether one point is seen from another."""
    word, found = sees(land, (x, z), (to_x, to_z))
    return "hidden " + numbers_text(found) if word == "hidden" else word


def say_needless(land):
    """The numbers of the edits that aren't needed."""
    return joined([str(number) for number in needless(land)], " ")


def say_save(land):
    """The rows of a save."""
    return saved(land).replace("\n", "; ")


def numbers_text(numbers):
    """Numbers with blanks between."""
    return " ".join([str(number) for number in numbers])


def joined(parts, between):
    """Parts with a text between, or that there are none."""
    return between.join(parts) if parts else "none"


# How many numbers stand behind each word, and what answers it.
COUNTS = {
    "drop": 1, "swap": 2, "back": 0, "again": 0, "edits": 0, "height": 2, "bounds": 4, "square": 3, "tall": 5,
    "highest": 4, "route": 8, "pour": 7, "sees": 4, "needless": 0, "save": 0,
}

ANSWERS = {
    "drop": say_drop, "swap": say_swap, "back": say_back, "again": say_again, "edits": say_edits,
    "height": say_height, "bounds": say_bounds, "square": say_square, "tall": say_tall, "highest": say_highest,
    "route": say_route, "pour": say_pour, "sees": say_sees, "needless": say_needless, "save": say_save,
}


class Desk:
    """Takes lines, one behind the other, and answers each by a text."""

    def __init__(self):
        self._land = None

    def say(self, line):
        """The answer to a line, or a refusal."""
        words = line.split(" ")
        # A land without edits is false, so it must be asked for as None.
        if "" in words or not is_line(words, self._land is not None):
            raise NoLine()
        if words[0] == "land":
            self._land = Land(read_rules(" ".join(words[2:])), int(words[1]))
            return "ok"
        if words[0] == "edit":
            return str(self._land.edit(edit_of(words[1:])))
        numbers = [int(word) for word in words[1:]]
        answer = ANSWERS[words[0]]
        return answer(self._land, *numbers)


def is_line(words, has_land):
    """Whether words are a line's that a desk knows, with a land or without one; a TEXT may be any."""
    word = words[0]
    if word == "land":
        return len(words) > 2 and is_number(words[1], MOST_FIGURES) and not words[1].startswith("-")
    if not has_land:
        return False
    if word == "edit":
        return len(words) > 1 and is_edit(words[1:], MOST_FIGURES)
    if word not in COUNTS or len(words) != 1 + COUNTS[word]:
        return False
    return all([is_number(number, MOST_FIGURES) for number in words[1:]])
