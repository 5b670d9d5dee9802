"""Steps gone through for a whole grid of points at once, step by step and not point by point."""

from landweave.noises import noise_grid


def grid_values(steps, seed, xs, zs):
    """The values of the last of some steps at each x of rising xs with each z of rising zs, in order."""
    many = len(xs) * len(zs)
    found = []
    for step in steps:
        word = step[0]
        if word == "noise":
            dx, dz = step[3], step[4]
            values = noise_grid(seed, step[1], step[2], [x + dx for x in xs], [z + dz for z in zs])
        elif word == "whole":
            values = [step[1]] * many
        elif word == "x":
            values = [x + step[1] for x in xs for _ in zs]
        elif word == "z":
            values = [z + step[1] for z in zs] * len(xs)
        elif word == "over":
            values = [value // step[2] for value in found[step[1]]]
        elif word == "below":
            values = chosen_values([found[number] for number in step[1:]])
        else:
            values = joined_values(word, found[step[1]], found[step[2]])
        found.append(values)
    return found[-1]


def chosen_values(parts):
    """What a below makes of the values of its four fields, point by point."""
    one, other, then, otherwise = parts
    return [yes if low < high else no for low, high, yes, no in zip(one, other, then, otherwise)]


def joined_values(word, one, other):
    """What a word of two fields makes of their values, point by point."""
    if word == "plus":
        return [low + high for low, high in zip(one, other)]
    if word == "less":
        return [low - high for low, high in zip(one, other)]
    if word == "times":
        return [low * high for low, high in zip(one, other)]
    if word == "least":
        return [low if low < high else high for low, high in zip(one, other)]
    return [high if low < high else low for low, high in zip(one, other)]
