"""The fewest cells of some kinds that make a map, and an arm of so many."""

from drawarms.builders import carry_and_two_turnabouts, carry_of_grows, carry_of_mirrors, carry_of_turnabouts
from drawarms.builders import four_turnabouts, grow_and_turnabout, grow_and_two_turnabouts, grow_of_four_turnabouts
from drawarms.builders import grow_of_mirrors, grow_of_turnabouts, mirror_and_grow, mirror_and_two_turnabouts
from drawarms.builders import mirror_of_factor, three_turnabouts, three_turnabouts_about_far, turnabout, two_turnabouts
from drawarms.errors import InvalidKinds, InvalidRing
from drawarms.gauss import NOUGHT, negative, times
from drawarms.kept import size_root
from drawarms.lines import line_along
from drawarms.maps import STAYS, back_of, place_led, require_map
from drawarms.matrices import determinant
from drawarms.places import FAR, ZERO, difference_of, product_of, quotient_of, quotient_place
from drawarms.ratios import ONE, conjugate_ratio, half_way_turned, halved, is_real, kept_pole, led_by, size_pair
from drawarms.ratios import size_ratio
from drawarms.rings import is_ring

WORDS = ("carry", "grow", "turnabout", "mirror")


def first_wrong_kind(value):
    """The index of the first element of a tuple that is no word for cells, or is equal to one before it; None."""
    for index, word in enumerate(value):
        if not isinstance(word, str) or word not in WORDS or word in value[:index]:
            return index
    return None


def are_kinds(value):
    """Whether a value is a tuple of unlike words for cells."""
    return isinstance(value, tuple) and first_wrong_kind(value) is None


def _require_kinds(kinds):
    if not are_kinds(kinds):
        raise InvalidKinds(first_wrong_kind(kinds) if isinstance(kinds, tuple) else None)


def is_true(chart):
    """Whether the norm of the determinant is the square of a whole number."""
    require_map(chart)
    return size_root(chart) is not None


def _keeps_far(chart):
    return chart[3] == NOUGHT


def _factor(chart):
    return quotient_place(chart[1], chart[4])


def factor_of(chart):
    """The ratio a / d of a map that keeps the far place; None for another one."""
    require_map(chart)
    return _factor(chart) if _keeps_far(chart) else None


def _has_size(factor):
    """Whether the size of a ratio is told by whole numbers."""
    return size_ratio(factor) is not None


def _slide(shift, kinds, ring):
    """Cells for a plain map that keeps the far place, with the factor 1."""
    if "carry" in kinds:
        return (("carry", shift),)
    if "grow" in kinds:
        return carry_of_grows(shift, ring)
    if "mirror" in kinds:
        return carry_of_mirrors(shift)
    return carry_of_turnabouts(shift, ring) if "turnabout" in kinds else None


def _plain_about_far(factor, rest, kinds, ring):
    """Cells for the plain map z goes to factor * z + rest."""
    if factor == ONE:
        return _slide(rest, kinds, ring)
    pole = kept_pole(factor, rest)
    if "grow" in kinds:
        return (("grow", pole, factor, ring),)
    if "turnabout" in kinds and is_real(factor):
        return grow_of_turnabouts(pole, factor, ring)
    if "mirror" in kinds and size_pair(factor) == (1, 1):
        return grow_of_mirrors(pole, factor)
    if "turnabout" in kinds and _has_size(factor):
        return grow_of_four_turnabouts(pole, factor, ring)
    return None


def _with_mirror(factor, rest, kinds, ring):
    """Cells, `mirror` being there, for the mirrored map z goes to factor * (the conjugate of z) + rest."""
    keeps_sizes = size_pair(factor) == (1, 1)
    if keeps_sizes and led_by(factor, rest, conjugate_ratio(rest)) == ZERO:
        # The map leads 0 to the rest and this back to 0, so it is the mirror in the line between both.
        return (("mirror", line_along(halved(rest), half_way_turned(factor))),)
    if "grow" in kinds:
        return mirror_and_grow(factor, rest, ring)
    if keeps_sizes:
        return (mirror_of_factor(factor),) + _slide(rest, kinds, ring)
    if "turnabout" in kinds and _has_size(factor):
        return mirror_and_two_turnabouts(factor, rest, ring)
    return None


def _mirrored_about_far(factor, rest, kinds, ring):
    """Cells for the mirrored map z goes to factor * (the conjugate of z) + rest."""
    if "mirror" in kinds:
        return _with_mirror(factor, rest, kinds, ring)
    if "turnabout" not in kinds:
        return None
    if _has_size(factor):
        return three_turnabouts_about_far(factor, rest, ring)
    if "grow" not in kinds:
        return None
    # This leaves the factor 1 behind it.
    return (("grow", ZERO, conjugate_ratio(factor), ring),) + three_turnabouts_about_far(ONE, rest, ring)


def _plain_elsewhere(goal, source, product, kinds, ring):
    """Cells, `turnabout` being there, for the plain map with G, H and E."""
    between = difference_of(goal, source)
    if _has_size(product) and is_real(quotient_of(product_of(between, between), product)):
        return two_turnabouts(goal, source, product, ring)
    if "grow" in kinds:
        return grow_and_two_turnabouts(goal, source, product, ring)
    if not _has_size(product):
        return None
    if "carry" in kinds:
        return carry_and_two_turnabouts(goal, source, product, ring)
    return four_turnabouts(goal, source, product, ring)


def _mirrored_elsewhere(goal, source, product, kinds, ring):
    """Cells, `turnabout` being there, for the mirrored map with G, H and E."""
    if goal == source and is_real(product):
        return (turnabout(goal, product, ring),)
    if "grow" in kinds:
        return grow_and_turnabout(goal, source, product, ring)
    if "carry" in kinds and is_real(product):
        return (("carry", difference_of(goal, source)), turnabout(goal, product, ring))
    return three_turnabouts(goal, source, product, ring) if _has_size(product) else None


def least_cells(chart, kinds, ring):
    """The fewest cells of some kinds that make a map; None if it is not made."""
    if chart == STAYS:
        return ()
    if _keeps_far(chart):
        factor, rest = _factor(chart), quotient_place(chart[2], chart[4])
        if chart[0]:
            return _mirrored_about_far(factor, rest, kinds, ring)
        return _plain_about_far(factor, rest, kinds, ring)
    if "turnabout" not in kinds:
        return None
    goal, source = place_led(chart, FAR), place_led(back_of(chart), FAR)
    product = quotient_place(negative(determinant(chart[1:])), times(chart[3], chart[3]))
    if chart[0]:
        return _mirrored_elsewhere(goal, source, product, kinds, ring)
    return _plain_elsewhere(goal, source, product, kinds, ring)


def fewest_cells(chart, kinds):
    """The fewest cells of some kinds that make a map; None if it is not made."""
    require_map(chart)
    _require_kinds(kinds)
    # The rings do not matter for how many cells there are.
    cells = least_cells(chart, kinds, ((1, 1), (2, 1)))
    return None if cells is None else len(cells)


def least_arm(chart, kinds, ring):
    """Any arm of the fewest cells of some kinds that has the map, each with the ring; None if it is not made."""
    require_map(chart)
    _require_kinds(kinds)
    if not is_ring(ring):
        raise InvalidRing(ring)
    return least_cells(chart, kinds, ring)
