"""Lines that are told by places and directions; nothing is checked here."""

from drawarms.gauss import norm_of
from drawarms.rounds import round_from


def line_along(place, direction):
    """The line through a place, in the direction of a ratio other than 0."""
    (p, s, r), (first, second, _) = place, direction
    return round_from((0, -second * r, first * r, second * p - first * s))


def line_between(place, other):
    """The line in which two different places are mirror images."""
    (p, s, r), (p2, s2, r2) = place, other
    both = 2 * r * r2
    rest = norm_of((p, s)) * r2 * r2 - norm_of((p2, s2)) * r * r
    return round_from((0, both * (p2 * r - p * r2), both * (s2 * r - s * r2), rest))
