"""Maps (f, a, b, c, d) of the plane, plain ones and mirrored ones."""

from drawarms.complexes import is_complex, require_complex
from drawarms.errors import InvalidFlag, InvalidMap, NoMap
from drawarms.gauss import NOUGHT, conjugate_of, divisor_of, exact_quotient, is_quarter, norm_of, plus, scaled, times
from drawarms.gauss import turned
from drawarms.matrices import adjugate, conjugates, determinant, led_parts, matrix_product
from drawarms.places import quotient_place, require_place, upper_and_lower
from drawarms.rounds import mirror_numbers, require_round, round_from
from drawarms.wholes import is_whole

STAYS = (0, (1, 0), (0, 0), (0, 0), (1, 0))


def map_from(flag, numbers, multiple=(0, 0)):
    """The map of four numbers, brought to its form; `multiple` is any multiple of all their common divisors."""
    divisor = divisor_of(numbers + (multiple,))
    numbers = tuple([exact_quotient(number, divisor) for number in numbers])
    leader = numbers[0] if numbers[0] != NOUGHT else numbers[1]
    while not is_quarter(leader):
        leader = turned(leader)
        numbers = tuple([turned(number) for number in numbers])
    return (flag,) + numbers


def joined(chart, other):
    """The first map after the other one."""
    numbers = conjugates(other[1:]) if chart[0] else other[1:]
    # As neither map's numbers have a common divisor, those of the product divide this determinant,
    # which is far smaller than the product where a power grows.
    return map_from((chart[0] + other[0]) % 2, matrix_product(chart[1:], numbers), determinant(numbers))


def back_of(chart):
    """The way back."""
    numbers = adjugate(chart[1:])
    return map_from(chart[0], conjugates(numbers) if chart[0] else numbers)


def place_led(chart, place):
    """The place to which a map leads a place."""
    number, under = upper_and_lower(place)
    upper, lower = led_parts(chart[1:], conjugate_of(number) if chart[0] else number, under)
    return quotient_place(upper, lower)


def _value_on(row, first, other):
    """The value of a row (q, l, m, k) where a complex number by another one is put into it."""
    q, l, m, k = row
    slope = times((l, -m), times(first, conjugate_of(other)))
    return q * norm_of(first) + slope[0] + k * norm_of(other)


def row_led_back(chart, row):
    """The row that a map leads back from a row, not reduced."""
    q, l, m, k = row
    a, b, c, d = chart[1:]
    b_star, d_star = conjugate_of(b), conjugate_of(d)
    ends = plus(scaled(times(a, b_star), 2 * q), scaled(times(c, d_star), 2 * k))
    slopes = plus(times((l, -m), times(a, d_star)), times((l, m), times(b_star, c)))
    first, second = plus(ends, slopes)
    return (_value_on(row, a, c), first, second if chart[0] else -second, _value_on(row, b, d))


def round_led(chart, circle):
    """The round to which a map leads a round."""
    return round_from(row_led_back(back_of(chart), circle))


def is_flag(value):
    """Whether a value is 0 or 1, and neither True nor False."""
    return is_whole(value) and 0 <= value <= 1


def is_map(value):
    """Whether a value, whatever it is, is a map in its form."""
    if not isinstance(value, tuple) or len(value) != 5 or not is_flag(value[0]):
        return False
    numbers = value[1:]
    if not all([is_complex(number) for number in numbers]) or determinant(numbers) == NOUGHT:
        return False
    return value == map_from(value[0], numbers)


def require_map(chart):
    """Raise InvalidMap for what is no map."""
    if not is_map(chart):
        raise InvalidMap(chart)


def map_of(is_mirrored, first, second, third, fourth):
    """The map with four complex numbers, brought to its form."""
    if not is_flag(is_mirrored):
        raise InvalidFlag(is_mirrored)
    numbers = (first, second, third, fourth)
    for number in numbers:
        require_complex(number)
    if determinant(numbers) == NOUGHT:
        raise NoMap()
    return map_from(is_mirrored, numbers)


def led_place(chart, place):
    """The place to which a map leads a place."""
    require_map(chart)
    require_place(place)
    return place_led(chart, place)


def led_round(chart, circle):
    """The round to which a map leads a round."""
    require_map(chart)
    require_round(circle)
    return round_led(chart, circle)


def after(chart, other):
    """The first map after the other one, which is done first."""
    require_map(chart)
    require_map(other)
    return joined(chart, other)


def back(chart):
    """The way back of a map."""
    require_map(chart)
    return back_of(chart)


def mirror_map(circle):
    """The mirror in a round as a map."""
    return map_from(1, mirror_numbers(circle))


def mirror_in(circle):
    """The mirror in a round as a map."""
    require_round(circle)
    return mirror_map(circle)


def is_straight(chart, circle):
    """Whether a map leads a round to a line."""
    require_map(chart)
    require_round(circle)
    return round_led(chart, circle)[0] == 0
