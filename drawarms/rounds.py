"""Rows (q, l, m, k), and the rounds, circles and lines, that they stand for."""

from drawarms.errors import InvalidRound, InvalidRow, Same
from drawarms.gauss import conjugate_of
from drawarms.matrices import led_parts
from drawarms.places import FAR, quotient_place, ratio_over, require_place, upper_and_lower
from drawarms.wholes import are_wholes, common_of, reduced, sign_of

NULL = (0, 0, 0, 0)


def paired(row, other):
    """J of two rows, and D of one that is passed twice."""
    q, l, m, k = row
    q2, l2, m2, k2 = other
    return l * l2 + m * m2 - 2 * (q * k2 + q2 * k)


def is_row(value):
    """Whether a value is a row."""
    return are_wholes(value, 4) and common_of(value) == 1 and paired(value, value) > 0


def is_round(value):
    """Whether a value is a round."""
    # Tuples compare by their first unlike numbers, so this asks for the sign of the first that is not 0.
    return is_row(value) and value > NULL


def require_row(row):
    """Raise InvalidRow for what is no row."""
    if not is_row(row):
        raise InvalidRow(row)


def require_round(circle):
    """Raise InvalidRound for what is no round."""
    if not is_round(circle):
        raise InvalidRound(circle)


def require_both_rounds(circle, other):
    """Raise InvalidRound for the first one that is no round."""
    require_round(circle)
    require_round(other)


def require_unlike_rounds(circle, other):
    """Raise Same with the other round if it is the first one."""
    if circle == other:
        raise Same(other)


def opposite(row):
    """The row with all signs changed."""
    return tuple([-number for number in row])


def round_from(numbers):
    """The round of four whole numbers that are a multiple of a row."""
    row = reduced(numbers)
    return row if row > NULL else opposite(row)


def mixed(row, many, other, other_many):
    """So many times the first row and so many times the other one, added up."""
    return tuple([many * number + other_many * beside for number, beside in zip(row, other)])


def row_value(row, place):
    """The value of a row at a place, both taken as they are."""
    p, s, r = place
    q, l, m, k = row
    return q * (p * p + s * s) + (l * p + m * s + k * r) * r


def row_middle(row):
    """The place of -(l + m i) / (2 q), the far one if q is 0."""
    q, l, m, _ = row
    if q == 0:
        return FAR
    return ratio_over((-l, -m), 2 * q) if q > 0 else ratio_over((l, m), -2 * q)


def mirror_numbers(row):
    """The four numbers of the mirror in the round of a row."""
    q, l, m, k = row
    return ((-l, -m), (-2 * k, 0), (2 * q, 0), (l, -m))


def round_of(row):
    """The round to which a row belongs."""
    require_row(row)
    return row if row > NULL else opposite(row)


def value_at(row, place):
    """The value of a row at a place, a whole number."""
    require_row(row)
    require_place(place)
    return row_value(row, place)


def side_of(row, place):
    """The sign of the value of a row at a place."""
    require_row(row)
    require_place(place)
    return sign_of(row_value(row, place))


def require_unlike(places):
    """Raise Same with the first place that is equal to one before it."""
    for index, place in enumerate(places):
        if place in places[:index]:
            raise Same(place)


def place_factors(place):
    """What the four numbers of a row are multiplied by in its value at a place."""
    p, s, r = place
    return (p * p + s * s, p * r, s * r, r * r)


def _minor(tables, at):
    """The determinant of three rows of four numbers, the number at one index left out of each."""
    (a, b, c), (d, e, f), (g, h, i) = [row[:at] + row[at + 1:] for row in tables]
    return a * (e * i - f * h) + b * (f * g - d * i) + c * (d * h - e * g)


def round_through(first, second, third):
    """The round through three different places."""
    places = (first, second, third)
    for place in places:
        require_place(place)
    require_unlike(places)
    # That the value is 0 at all three are three linear equations; their minors solve them.
    tables = [place_factors(place) for place in places]
    return round_from((_minor(tables, 0), -_minor(tables, 1), _minor(tables, 2), -_minor(tables, 3)))


def middle_of(circle):
    """The middle of a round; the far place for a line."""
    require_round(circle)
    return row_middle(circle)


def radius_of(circle):
    """The square of the radius as a reduced pair; None for a line."""
    require_round(circle)
    if circle[0] == 0:
        return None
    return reduced((paired(circle, circle), 4 * circle[0] * circle[0]))


def _crossing_parts(circle, other):
    """J * J and D * D' of two rounds."""
    beside = paired(circle, other)
    return beside * beside, paired(circle, circle) * paired(other, other)


def shared(circle, other):
    """How many places two rounds share, 0, 1 or 2; None if they are the same."""
    require_both_rounds(circle, other)
    if circle == other:
        return None
    upper, lower = _crossing_parts(circle, other)
    return 1 - sign_of(upper - lower)


def crossing(circle, other):
    """J * J / (D * D') as a reduced pair."""
    require_both_rounds(circle, other)
    return reduced(_crossing_parts(circle, other))


def touching_place(circle, other):
    """The place that two rounds share if it is just one; None otherwise."""
    if shared(circle, other) != 1:
        return None
    # This row has D = 0, so its middle is the only place at which its value is 0.
    return row_middle(mixed(circle, paired(circle, other), other, -paired(circle, circle)))


def mirrored_place(circle, place):
    """The mirror image of a place in a round."""
    require_round(circle)
    require_place(place)
    number, under = upper_and_lower(place)
    upper, lower = led_parts(mirror_numbers(circle), conjugate_of(number), under)
    return quotient_place(upper, lower)


def mirrored_round(circle, other):
    """The mirror image of the other round in the first one."""
    require_both_rounds(circle, other)
    return round_from(mixed(other, paired(circle, circle), circle, -2 * paired(circle, other)))
