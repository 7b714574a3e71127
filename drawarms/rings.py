"""Rings: the pairs of fractions that bound the square of a distance."""

from drawarms.places import distance_of
from drawarms.wholes import is_fraction


def is_below(fraction, other):
    """Whether the first fraction is less than the other one."""
    return fraction[0] * other[1] < other[0] * fraction[1]


def is_ring(value):
    """Whether a value is a pair of fractions, the first below the second."""
    if not isinstance(value, tuple) or len(value) != 2:
        return False
    low, high = value
    return is_fraction(low) and is_fraction(high) and is_below(low, high)


def keeps_ring(ring, pole, place):
    """Whether two places, none of them far, keep a ring."""
    low, high = ring
    apart = distance_of(pole, place)
    return not is_below(apart, low) and not is_below(high, apart)
