"""Rows as planes, and points of the skin of the unit ball; nothing is checked here.

A plane is the pair (n, e) of a row, with the value n u + e at a point u. A spot is (upper, along, under, square): the
point (upper + along * t) / under, t being the root of the square, and under above 0.
"""

from drawarms.places import FAR
from drawarms.wholes import reduced, sign_of, whole_root

NOWHERE = (0, 0, 0)
# The value of this one is 0 at the far place alone.
FAR_PLANE = ((0, 0, -1), 1)
FAR_SPOT = ((0, 0, 1), (0, 0, 0), 1, 0)


def plane_of(row):
    """The plane of a row."""
    q, l, m, k = row
    return (l, m, q - k), q + k


def inner(first, second):
    """The sum of the three products."""
    return first[0] * second[0] + first[1] * second[1] + first[2] * second[2]


def outer(first, second):
    """The cross product."""
    a, b, c = first
    d, e, f = second
    return (b * f - c * e, c * d - a * f, a * e - b * d)


def lengthened(numbers, many):
    """So many times the numbers."""
    return tuple([many * number for number in numbers])


def combined(first, many, second, other_many):
    """So many times the first numbers and so many times the second ones, added up."""
    return tuple([many * number + other_many * beside for number, beside in zip(first, second)])


def surd_sign(whole, many, square):
    """The sign of a whole number and so many times the root of a square, added up."""
    if many == 0 or square == 0:
        return sign_of(whole)
    if sign_of(whole) != -sign_of(many):
        return sign_of(many)
    return sign_of(whole) * sign_of(whole * whole - many * many * square)


def spot_side(plane, spot):
    """The sign of the value of a plane at a spot."""
    normal, e = plane
    upper, along, under, square = spot
    return surd_sign(inner(normal, upper) + e * under, inner(normal, along), square)


def spot_slope(plane, other, spot):
    """The sign of the growth of the value of the other plane, where a spot begins to go round the first one."""
    upper, along, _, square = spot
    growth = outer(other[0], plane[0])
    return surd_sign(inner(growth, upper), inner(growth, along), square)


def side_behind(plane, other, spot, way):
    """The sign of the other plane on the stretch of the first one that begins behind a spot of it.

    With way 1 the stretch goes round n in the direction n x u, with way -1 the other way.
    """
    side = spot_side(other, spot)
    if side == 0:
        side = way * spot_slope(plane, other, spot)
    # Planes that touch the first one at the spot have one sign everywhere else on it.
    return side if side != 0 else side_on_all(plane, other)


def side_on_all(plane, other):
    """The sign of the other plane on the first one's round, where both don't cross."""
    (normal, e), (other_normal, other_e) = plane, other
    return sign_of(inner(normal, normal) * other_e - e * inner(normal, other_normal))


def place_spot(place):
    """The spot of a place."""
    p, s, r = place
    size = p * p + s * s
    return (2 * p * r, 2 * s * r, size - r * r), NOWHERE, size + r * r, 0


def spot_place(spot):
    """The place of a spot; None if it is not whole."""
    upper, along, under, square = spot
    root = whole_root(square)
    if root is None:
        return None
    first, second, third = combined(upper, 1, along, root)
    return reduced((first, second, under - third)) if under != third else FAR


def is_far_spot(spot):
    """Whether a spot is the far place."""
    return spot_side(FAR_PLANE, spot) == 0


def met_spots(plane, other):
    """The spots that two different rounds share, by the signs of these meetings, in ascending order."""
    (normal, e), (other_normal, other_e) = plane, other
    a, b, d = inner(normal, normal), inner(normal, other_normal), inner(other_normal, other_normal)
    under = a * d - b * b
    square = under - (e * e * d - 2 * e * other_e * b + other_e * other_e * a)
    if square < 0:
        return {}
    upper = combined(normal, other_e * b - e * d, other_normal, e * b - other_e * a)
    if square == 0:
        return {0: (upper, NOWHERE, under, 0)}
    along = outer(normal, other_normal)
    return {sign: (upper, lengthened(along, sign), under, square) for sign in (-1, 1)}


def some_spot(plane):
    """Any spot of a round."""
    normal, e = plane
    across = (-normal[1], normal[0], 0) if normal[0] or normal[1] else (1, 0, 0)
    size, cross_size = inner(normal, normal), inner(across, across)
    under = size * cross_size
    return lengthened(normal, -e * cross_size), across, under, (size - e * e) * under
