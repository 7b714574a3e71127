"""Which rows and spots a map keeps; nothing is checked here."""

from drawarms.gauss import conjugate_of, minus, norm_of, plus, scaled, times
from drawarms.kinds import mirrored_kind
from drawarms.maps import row_led_back
from drawarms.matrices import determinant
from drawarms.rounds import mixed, round_from
from drawarms.skin import surd_sign
from drawarms.stairs import base_of
from drawarms.wholes import whole_root

UNIT_ROWS = ((1, 0, 0, 0), (0, 1, 0, 0), (0, 0, 1, 0), (0, 0, 0, 1))


def size_root(chart):
    """The root of the norm of the determinant; None if it is no whole number."""
    return whole_root(norm_of(determinant(chart[1:])))


def kept_base(chart, way):
    """Rows of which all rows that are led back to so many times the root of themselves are sums of multiples."""
    root = size_root(chart)
    if root is None:
        return []
    columns = [mixed(row_led_back(chart, row), 1, row, -way * root) for row in UNIT_ROWS]
    return base_of([[column[at] for column in columns] for at in range(4)], 4)


def round_of_mirror(chart):
    """The round in which a map is the mirror; None if it is none."""
    if chart[0] == 0 or mirrored_kind(chart) != "mirror":
        return None
    # Rows that are upright to this round's keep their sides, so those that change them are multiples of it.
    return round_from(kept_base(chart, -1)[0])


def _surd_product(first, second, square):
    """The product of two complex numbers of the form a + b t, as pairs of a and b."""
    (a, b), (c, d) = first, second
    return plus(times(a, c), scaled(times(b, d), square)), plus(times(a, d), times(b, c))


def _surd_sum(first, second):
    return plus(first[0], second[0]), plus(first[1], second[1])


def _led(number, other, chart, at, square):
    """One of the two numbers, the upper one at 1 and the lower one at 3, that a map makes of two ones."""
    first, second = (chart[at], (0, 0)), (chart[at + 1], (0, 0))
    return _surd_sum(_surd_product(first, number, square), _surd_product(second, other, square))


def keeps_spot(chart, spot):
    """Whether a map keeps a spot other than the far place."""
    upper, along, under, square = spot
    number = ((upper[0], upper[1]), (along[0], along[1]))
    other = ((under - upper[2], 0), (-along[2], 0))
    taken = (conjugate_of(number[0]), conjugate_of(number[1])) if chart[0] else number
    first = _surd_product(_led(taken, other, chart, 1, square), other, square)
    second = _surd_product(_led(taken, other, chart, 3, square), number, square)
    whole, many = minus(first[0], second[0]), minus(first[1], second[1])
    return surd_sign(whole[0], many[0], square) == 0 and surd_sign(whole[1], many[1], square) == 0
