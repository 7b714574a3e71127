"""Cells one after another that make a map; nothing is checked here.

Maps that keep the far place are told by their factor and the place to which 0 goes; the others by the place G to which
the far place goes, the place H that goes to the far place, and E.
"""

from drawarms.lines import line_along, line_between
from drawarms.places import ZERO, difference_of, product_of, quotient_of, sum_of
from drawarms.ratios import ONE, conjugate_ratio, doubled, half_way_turned, halved, imaginary_of, is_real, kept_pole
from drawarms.ratios import led_by, opposite_ratio, real_pair, size_ratio

TWO = (2, 0, 1)
HALF = (1, 0, 2)


def turnabout(pole, power, ring):
    """The `turnabout` with a real ratio as its power."""
    return ("turnabout", pole, real_pair(power), ring)


def grow_between(factor, source, goal, ring):
    """The `grow` with a factor that leads a place to another one."""
    return ("grow", kept_pole(factor, difference_of(goal, product_of(factor, source))), factor, ring)


def grow_of_turnabouts(pole, factor, ring):
    """Two cells that make a `grow` with a real factor."""
    return (turnabout(pole, ONE, ring), turnabout(pole, factor, ring))


def grow_of_mirrors(pole, factor):
    """Two cells that make a `grow` with a factor of size 1."""
    return (("mirror", line_along(pole, ONE)), ("mirror", line_along(pole, half_way_turned(factor))))


def carry_of_grows(shift, ring):
    """Two cells that make a `carry`."""
    return (("grow", ZERO, TWO, ring), ("grow", doubled(shift), HALF, ring))


def carry_of_mirrors(shift):
    """Two cells that make a `carry`."""
    return (("mirror", line_between(opposite_ratio(shift), shift)), ("mirror", line_between(ZERO, shift)))


def carry_of_turnabouts(shift, ring):
    """Four cells that make a `carry`."""
    return grow_of_turnabouts(ZERO, TWO, ring) + grow_of_turnabouts(doubled(shift), HALF, ring)


def mirror_of_factor(factor):
    """The `mirror` in a line through 0 that leads z to so many times its conjugate, for a factor of size 1."""
    return ("mirror", line_along(ZERO, half_way_turned(factor)))


def _half_turn_of_turnabouts(middle, product, ring):
    """Two cells that make the plain map for which both G and H are the middle, of an E of whole size."""
    root = half_way_turned(product)
    many = quotient_of(product, product_of(root, root))
    # The poles are the middle and x or y times the root, where x * y is this number; so x and y are not the same.
    first, second = (many, ONE) if many != ONE else (TWO, HALF)
    size = product_of(root, conjugate_ratio(root))
    apart = product_of(difference_of(first, second), size)
    return (
        turnabout(led_by(first, middle, root), product_of(first, apart), ring),
        turnabout(led_by(second, middle, root), opposite_ratio(product_of(second, apart)), ring),
    )


def two_turnabouts(goal, source, product, ring):
    """Two cells that make the plain map with G, H and E, if it is true and S is real."""
    between = difference_of(goal, source)
    if between == ZERO:
        return _half_turn_of_turnabouts(goal, product, ring)
    along = quotient_of(product, between)
    return (
        turnabout(goal, opposite_ratio(product_of(along, conjugate_ratio(between))), ring),
        turnabout(sum_of(goal, along), product_of(along, conjugate_ratio(along)), ring),
    )


def grow_of_four_turnabouts(pole, factor, ring):
    """Four cells that make a `grow` with a factor of whole size that is not real."""
    size = size_ratio(factor)
    power = sum_of(size, ONE)
    first = (turnabout(pole, ONE, ring), turnabout(sum_of(pole, ONE), power, ring))
    # What is left behind these two has a real S.
    product = opposite_ratio(product_of(factor, power))
    return first + two_turnabouts(sum_of(pole, factor), difference_of(pole, size), product, ring)


def grow_and_two_turnabouts(goal, source, product, ring):
    """Three cells that make the plain map with G, H and E, whatever these are."""
    # Behind this first cell, E is a whole number and the place that goes to the far one is G - 1; so S is real.
    left = ONE if product != ONE else TWO
    led = difference_of(goal, ONE)
    first = grow_between(quotient_of(left, product), source, led, ring)
    return (first,) + two_turnabouts(goal, led, left, ring)


def carry_and_two_turnabouts(goal, source, product, ring):
    """Three cells that make the plain map with G, H and E, if it is true and S is not real."""
    # Behind the first cell G - H has a square that is a multiple of E.
    led = difference_of(goal, half_way_turned(product))
    return (("carry", difference_of(led, source)),) + two_turnabouts(goal, led, product, ring)


def four_turnabouts(goal, source, product, ring):
    """Four cells that make the plain map with G, H and E, if it is true."""
    # The first two are a `grow` with the factor 2, behind which G - H has a square that is a multiple of E.
    led = difference_of(goal, half_way_turned(product))
    first = grow_of_turnabouts(difference_of(doubled(source), led), TWO, ring)
    return first + two_turnabouts(goal, led, doubled(product), ring)


def mirror_and_grow(factor, rest, ring):
    """Two cells that make the mirrored map z goes to factor * (the conjugate of z) + rest."""
    if factor != ONE:
        return (("mirror", (0, 0, 1, 0)), ("grow", kept_pole(factor, rest), factor, ring))
    return (("mirror", (0, 1, 0, 0)), ("grow", halved(rest), (-1, 0, 1), ring))


def mirror_and_two_turnabouts(factor, rest, ring):
    """Three cells that make such a map, if the factor is of whole size other than 1."""
    size = size_ratio(factor)
    return (mirror_of_factor(quotient_of(factor, size)),) + grow_of_turnabouts(kept_pole(size, rest), size, ring)


def three_turnabouts_about_far(factor, rest, ring):
    """Three cells that make the mirrored map z goes to factor * (the conjugate of z) + rest, if it is true."""
    # The first pole is led along the root of the factor, so that behind this cell S is real.
    root = half_way_turned(factor)
    across = quotient_of(imaginary_of(quotient_of(rest, root)), sum_of(size_ratio(factor), ONE))
    pole = product_of(root, across)
    goal = led_by(factor, rest, conjugate_ratio(pole))
    return (turnabout(pole, ONE, ring),) + two_turnabouts(goal, pole, factor, ring)


def grow_and_turnabout(goal, source, product, ring):
    """Two cells that make the mirrored map with G, H and E."""
    left = ONE if product != ONE else TWO
    factor = quotient_of(left, conjugate_ratio(product))
    return (grow_between(factor, source, goal, ring), turnabout(goal, left, ring))


def three_turnabouts(goal, source, product, ring):
    """Three cells that make the mirrored map with G, H and E, if it is true."""
    if is_real(product):
        left = ONE if product != ONE else TWO
        factor = quotient_of(product, left)
        pole = kept_pole(factor, difference_of(goal, product_of(factor, source)))
        return (turnabout(source, left, ring),) + grow_of_turnabouts(pole, factor, ring)
    between = difference_of(goal, source)
    size = size_ratio(product)
    # With these the first cell leaves a plain map for which (G - H) squared is a real multiple of E.
    apart, power = (between, size) if between != ZERO else (ONE, sum_of(size, ONE))
    pole, across = sum_of(source, apart), conjugate_ratio(apart)
    led = difference_of(pole, quotient_of(power, across))
    left = opposite_ratio(quotient_of(product_of(product, power), product_of(across, across)))
    rest = two_turnabouts(sum_of(goal, quotient_of(product, across)), led, left, ring)
    return (turnabout(pole, power, ring),) + rest
