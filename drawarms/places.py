"""Places (p, s, r) of the sheet, the far place, and places read as numbers."""

from drawarms.complexes import require_complex
from drawarms.errors import InvalidPlace, InvalidRatio, NoPlace
from drawarms.gauss import NOUGHT, conjugate_of, minus, norm_of, plus, scaled, times
from drawarms.wholes import are_wholes, common_of, reduced

FAR = (1, 0, 0)
ZERO = (0, 0, 1)


def is_place(value):
    """Whether a value, whatever it is, is a place."""
    if not are_wholes(value, 3):
        return False
    return value == FAR or (value[2] > 0 and common_of(value) == 1)


def is_ratio(value):
    """Whether a value is a place other than the far one."""
    return is_place(value) and value != FAR


def require_place(place):
    """Raise InvalidPlace for what is no place."""
    if not is_place(place):
        raise InvalidPlace(place)


def require_ratio(place):
    """Raise InvalidRatio for what is no place, or the far one."""
    if not is_ratio(place):
        raise InvalidRatio(place)


def upper_and_lower(place):
    """The complex number and the whole one whose quotient the place is; for the far one these are (1, 0) and 0."""
    p, s, r = place
    return (p, s), r


def quotient_place(number, other):
    """The place of a quotient of two complex numbers that are not both (0, 0)."""
    if other == NOUGHT:
        return FAR
    first, second = times(number, conjugate_of(other))
    return reduced((first, second, norm_of(other)))


def ratio_over(number, whole):
    """The place of a complex number divided by a whole one above 0."""
    return reduced((number[0], number[1], whole))


def place_of(number, other):
    """The place of the quotient of two complex numbers."""
    require_complex(number)
    require_complex(other)
    if number == NOUGHT and other == NOUGHT:
        raise NoPlace()
    return quotient_place(number, other)


def sum_of(place, other):
    """The sum of two places, read as numbers."""
    require_ratio(place)
    require_ratio(other)
    (number, under), (other_number, other_under) = upper_and_lower(place), upper_and_lower(other)
    return ratio_over(plus(scaled(number, other_under), scaled(other_number, under)), under * other_under)


def _difference(place, other):
    """The complex number and the whole one whose quotient the difference is."""
    (number, under), (other_number, other_under) = upper_and_lower(place), upper_and_lower(other)
    return minus(scaled(number, other_under), scaled(other_number, under)), under * other_under


def difference_of(place, other):
    """The first place less the other one, read as numbers."""
    require_ratio(place)
    require_ratio(other)
    number, under = _difference(place, other)
    return ratio_over(number, under)


def product_of(place, other):
    """The product of two places, read as numbers."""
    require_ratio(place)
    require_ratio(other)
    (number, under), (other_number, other_under) = upper_and_lower(place), upper_and_lower(other)
    return ratio_over(times(number, other_number), under * other_under)


def quotient_of(place, other):
    """The first place by the other one, read as numbers."""
    require_ratio(place)
    require_ratio(other)
    if other == ZERO:
        raise NoPlace()
    (number, under), (other_number, other_under) = upper_and_lower(place), upper_and_lower(other)
    return quotient_place(scaled(number, other_under), scaled(other_number, under))


def distance_of(place, other):
    """The square of the distance of two places, as a reduced pair."""
    require_ratio(place)
    require_ratio(other)
    number, under = _difference(place, other)
    return reduced((norm_of(number), under * under))
