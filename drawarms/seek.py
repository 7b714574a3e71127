"""Whole places in open fields; nothing is checked here."""

from math import isqrt

from drawarms.fields import planes_of, stretches_of, with_side
from drawarms.rounds import row_value
from drawarms.skin import combined, inner, lengthened, outer
from drawarms.wholes import reduced, sign_of

# As many as may be barred, and one more.
FIRST_PLACES = ((0, 0, 1), (1, 0, 1), (2, 0, 1))


def place_in_field(rounds, signs, barred):
    """A whole place, neither far nor one of two at most that are barred, at which rounds have told signs, none 0."""
    for place in FIRST_PLACES:
        if _may_be(place, rounds, signs, barred):
            return place
    planes = planes_of(rounds)
    at, spot = _start_beside(planes, signs)
    bits = 1
    while True:
        # Whatever the rounds are, all places from some number of bits on lie in the field.
        for place in _places_near(planes[at], spot, signs[at], bits):
            if _may_be(place, rounds, signs, barred):
                return place
        bits = 2 * bits


def _may_be(place, rounds, signs, barred):
    return place not in barred and tuple([sign_of(row_value(circle, place)) for circle in rounds]) == signs


def _start_beside(planes, signs):
    """The index of a round and a spot of it behind which the field lies along the round."""
    for at, spot, behind in stretches_of(planes):
        if with_side(behind, at, signs[at]) == signs:
            return at, spot
    return None


def _near_spot(spot, bits):
    """The point of a spot, times 2 to the power of the bits, in whole numbers about as great."""
    upper, along, under, square = spot
    root = isqrt(square << (2 * bits))
    return tuple([number // under for number in combined(upper, 1 << bits, along, root)])


def _point_near(plane, spot, side, bits):
    """A point on the told side of a round, a bit behind a spot of it, and much nearer to the round."""
    normal, _ = plane
    fine = 8 * bits + 64
    point = _near_spot(spot, fine)
    length = isqrt(inner(normal, normal)) + 1
    # The point is turned about n by the angle of which the tangent of the half is the length of n by `steps`.
    steps = length << bits
    under = steps * steps + inner(normal, normal)
    ahead = outer(normal, point)
    turn = combined(ahead, 2 * steps, outer(normal, ahead), 2)
    point = tuple([number + more // under for number, more in zip(point, turn)])
    # Rounds that touch this one at the spot leave it as the square of the distance; so the cube is small enough.
    push = [number // (length << (3 * bits)) for number in lengthened(normal, side << fine)]
    return combined(point, 1, push, 1), fine


def _places_near(plane, spot, side, bits):
    """Places for such a point, those with small numbers first."""
    point, fine = _point_near(plane, spot, side, bits)
    first, second, third = point
    under = isqrt(inner(point, point)) - third
    if under <= 0:
        return []
    places = []
    parts = 1
    while parts < fine:
        nearest = [(2 * (number << parts) + under) // (2 * under) for number in (first, second)]
        places.append(reduced((nearest[0], nearest[1], 1 << parts)))
        parts = 2 * parts
    places.append(reduced((first, second, under)))
    return places
