"""Where two rounds meet, on which side of a row that is, and all signs that occur for some rounds."""

from drawarms.errors import InvalidRounds, InvalidSign, NoMeeting
from drawarms.fields import signs_found
from drawarms.rounds import is_round, require_both_rounds, require_row, require_unlike_rounds
from drawarms.skin import met_spots, plane_of, spot_place, spot_side
from drawarms.wholes import is_whole

MOST_ROUNDS = 8


def _require_sign(sign):
    if not is_whole(sign) or not -1 <= sign <= 1:
        raise InvalidSign(sign)


def meetings(circle, other):
    """The ascending tuple of the signs with which two rounds have meetings."""
    require_both_rounds(circle, other)
    require_unlike_rounds(circle, other)
    return tuple(met_spots(plane_of(circle), plane_of(other)))


def _met_spot(circle, other, sign):
    require_both_rounds(circle, other)
    _require_sign(sign)
    require_unlike_rounds(circle, other)
    spots = met_spots(plane_of(circle), plane_of(other))
    if sign not in spots:
        raise NoMeeting(sign)
    return spots[sign]


def meeting_place(circle, other, sign):
    """The place of a meeting; None if it is not whole."""
    return spot_place(_met_spot(circle, other, sign))


def side_at(row, circle, other, sign):
    """The sign of the value of a row at a meeting."""
    require_row(row)
    return spot_side(plane_of(row), _met_spot(circle, other, sign))


def signs_for(rounds):
    """The ascending tuple of all signs that occur for some rounds."""
    if not isinstance(rounds, tuple):
        raise InvalidRounds(None)
    for index, circle in enumerate(rounds):
        if index == MOST_ROUNDS or not is_round(circle) or circle in rounds[:index]:
            raise InvalidRounds(index)
    return tuple(sorted(signs_found(rounds)))
