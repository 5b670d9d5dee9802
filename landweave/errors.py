"""The refusals: what is raised where something handed in is none of what it should be."""


class LandError(ValueError):
    """Above all refusals but NoSuch."""


class NoRules(LandError):
    """No rules: the places that lead to the first fault, and what is wrong there."""

    def __init__(self, path=(), why=""):
        self.path = path
        self.why = why


class NoBox(LandError):
    """No box, or one of too many points."""


class NoPoint(LandError):
    """No point, or one that lies where it may not."""


class NoLevel(LandError):
    """No level that can be asked."""


class NoCount(LandError):
    """A number that isn't within its bounds."""


class NoEdit(LandError):
    """No edit: what is wrong with it."""

    def __init__(self, why=""):
        self.why = why


class Full(LandError):
    """No room for one more edit."""


class NoDeed(LandError):
    """No deed to take back, or to do again."""


class NoBrush(LandError):
    """No brush: the places that lead to the first fault, and what is wrong there."""

    def __init__(self, path=(), why=""):
        self.path = path
        self.why = why


class NoText(LandError):
    """No text that can be read: the row at fault, and the spot in it."""

    def __init__(self, row=0, spot=0):
        self.row = row
        self.spot = spot


class NoLine(LandError):
    """No line that a desk knows."""


class NoSuch(KeyError):
    """No edit stands by this number."""

    def __init__(self, number=0):
        self.number = number
