"""Knots: the numbers by chance that noise and things hang on, the same ones whenever asked."""


def knot(seed, salt, i, j):
    """The knot at (i, j), from 0 to 65535."""
    first = (seed + 48271 * salt + 7) % 2147483647
    second = (first * first + 69621 * i + 1) % 2147483629
    third = (second * second + 16807 * j + 1) % 2147483587
    return (third * third + third) % 2147483579 % 65536
