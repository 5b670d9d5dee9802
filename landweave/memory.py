"""A memory: what was made when it was asked for, as long as there is room and no deed touches it."""


class Memory:
    """Keeps so many things by their keys, each with the box of the points that it was made of."""

    def __init__(self, bound):
        self.bound = bound
        self.held = {}

    def kept(self, key):
        """What is kept by a key, or None."""
        held = self.held.get(key)
        return None if held is None else held[1]

    def keep(self, key, box, thing):
        """Keep one thing more, in the place of the oldest one where there is no room."""
        if self.bound == 0:
            return
        if len(self.held) >= self.bound:
            oldest = next(iter(self.held), None)
            del self.held[oldest]
        self.held[key] = (box, thing)

    def forget(self, boxes):
        """Keep nothing any more that was made of a point of some boxes."""
        left = {}
        for key, held in self.held.items():
            if not is_met(held[0], boxes):
                left[key] = held
        self.held = left


def is_met(box, boxes):
    """Whether a box has a point in common with some boxes."""
    x0, z0, x1, z1 = box
    for other in boxes:
        if other[0] <= x1 and x0 <= other[2] and other[1] <= z1 and z0 <= other[3]:
            return True
    return False
