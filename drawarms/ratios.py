"""Ratios: places other than the far one, read as numbers; nothing is checked here."""

from drawarms.gauss import norm_of, scaled
from drawarms.places import ZERO, difference_of, product_of, quotient_of, ratio_over, sum_of
from drawarms.wholes import reduced, whole_root

ONE = (1, 0, 1)
TURN = (0, 1, 1)


def opposite_ratio(ratio):
    """The ratio with its sign changed."""
    return (-ratio[0], -ratio[1], ratio[2])


def conjugate_ratio(ratio):
    """The conjugate."""
    return (ratio[0], -ratio[1], ratio[2])


def reciprocal(ratio):
    """1 by a ratio other than 0."""
    return quotient_of(ONE, ratio)


def real_ratio(pair):
    """The ratio of a fraction (n, m) with m above 0."""
    return (pair[0], 0, pair[1])


def is_real(ratio):
    """Whether a ratio is a fraction of whole numbers."""
    return ratio[1] == 0


def imaginary_of(ratio):
    """The imaginary part, still times i."""
    return ratio_over((0, ratio[1]), ratio[2])


def real_pair(ratio):
    """The fraction (n, m) of a real ratio."""
    return (ratio[0], ratio[2])


def size_pair(ratio):
    """The norm of a ratio as a reduced pair."""
    return reduced((norm_of(ratio[:2]), ratio[2] * ratio[2]))


def root_of_pair(pair):
    """The root of a reduced fraction (n, m), n not below 0 and m above 0, as such a one; None if there is none."""
    upper, lower = whole_root(pair[0]), whole_root(pair[1])
    return None if upper is None or lower is None else (upper, lower)


def size_ratio(ratio):
    """The size of a ratio as a ratio; None if it is not told by whole numbers."""
    root = root_of_pair(size_pair(ratio))
    return None if root is None else real_ratio(root)


def halved(ratio):
    """Half a ratio."""
    return ratio_over(ratio[:2], 2 * ratio[2])


def doubled(ratio):
    """Twice a ratio."""
    return ratio_over(scaled(ratio[:2], 2), ratio[2])


def half_way_turned(ratio):
    """A ratio of which the square is the given one, of a size told by whole numbers, times a fraction above 0."""
    beside = sum_of(ratio, size_ratio(ratio))
    return TURN if beside == ZERO else beside


def kept_pole(factor, rest):
    """The place that a map z goes to factor * z + rest keeps, for a factor other than 1."""
    return quotient_of(rest, difference_of(ONE, factor))


def led_by(factor, rest, ratio):
    """factor * ratio + rest."""
    return sum_of(product_of(factor, ratio), rest)
