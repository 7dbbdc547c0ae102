"""All lots of so many indexes."""

from itertools import combinations


def lots_of(many, size):
    """The ascending lots of `size` indexes below `many`, ascending."""
    return list(combinations(range(many), size))
