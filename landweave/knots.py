"""Knots: the numbers by chance that noise and things hang on, the same ones whenever asked.

A knot comes of the seed and the salt, then of i, then of j. Noise asks for knots beside one another,
which have most of that way in common, so there are words for four of them and for a row of them.
"""


def knot(seed, salt, i, j):
    """The knot at (i, j), from 0 to 65535."""
    first = (seed + 48271 * salt + 7) % 2147483647
    second = (first * first + 69621 * i + 1) % 2147483629
    third = (second * second + 16807 * j + 1) % 2147483587
    return (third * third + third) % 2147483579 % 65536


def four_knots(seed, salt, i, j):
    """The knots at (i, j), (i + 1, j), (i, j + 1) and (i + 1, j + 1)."""
    first = (seed + 48271 * salt + 7) % 2147483647
    start = first * first + 69621 * i + 1
    second = start % 2147483629
    beside = (start + 69621) % 2147483629
    turn = 16807 * j + 1
    start = second * second + turn
    one = start % 2147483587
    three = (start + 16807) % 2147483587
    start = beside * beside + turn
    two = start % 2147483587
    four = (start + 16807) % 2147483587
    return ((one * one + one) % 2147483579 % 65536, (two * two + two) % 2147483579 % 65536,
            (three * three + three) % 2147483579 % 65536, (four * four + four) % 2147483579 % 65536)


def knot_row(seed, salt, i, places):
    """The knots at (i, j) for each j of some places."""
    first = (seed + 48271 * salt + 7) % 2147483647
    second = (first * first + 69621 * i + 1) % 2147483629
    start = second * second + 1
    thirds = [(start + 16807 * j) % 2147483587 for j in places]
    return [(third * third + third) % 2147483579 % 65536 for third in thirds]
