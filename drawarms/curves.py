"""Curves: arcs one behind another."""

from drawarms.arcs import arc_inside, arc_led, is_arc, place_on_arc, round_of_arc, shared_by_arcs
from drawarms.errors import InvalidCurve, NotClosed, NotSimple, OnCurve
from drawarms.lots import require_lot
from drawarms.maps import map_from, place_led, require_map
from drawarms.places import require_place, upper_and_lower
from drawarms.reach import reach_lot
from drawarms.rounds import paired, row_value

MOST_ARCS = 8


def _first_wrong(value):
    """The index of the first element of a tuple that is wrong in a curve; None if there is none."""
    for index, arc in enumerate(value):
        if index == MOST_ARCS or not is_arc(arc) or (index > 0 and arc[0] != value[index - 1][2]):
            return index
    return None


def is_curve(value):
    """Whether a value, whatever it is, is a curve."""
    return isinstance(value, tuple) and len(value) > 0 and _first_wrong(value) is None


def require_curve(curve):
    """Raise InvalidCurve for what is no curve."""
    if not is_curve(curve):
        raise InvalidCurve(_first_wrong(curve) if isinstance(curve, tuple) else None)


def _closes(curve):
    return curve[-1][2] == curve[0][0]


def is_closed(curve):
    """Whether the last arc of a curve ends where the first one begins."""
    require_curve(curve)
    return _closes(curve)


def _joints(curve, index, other):
    """How many places two arcs of a curve, the first one before the other one, share as ends that count once."""
    joints = int(index + 1 == other)
    if _closes(curve) and index == 0 and other == len(curve) - 1:
        joints = joints + 1
    return joints


def _comes_nowhere_twice(curve):
    for other, arc in enumerate(curve):
        for index, before in enumerate(curve[:other]):
            if shared_by_arcs(before, arc) != _joints(curve, index, other):
                return False
    return True


def is_simple(curve):
    """Whether a curve comes to no place twice."""
    require_curve(curve)
    return _comes_nowhere_twice(curve)


def led_curve(chart, curve):
    """The curve to which a map leads a curve."""
    require_map(chart)
    require_curve(curve)
    return tuple([arc_led(chart, arc) for arc in curve])


def curve_inside(curve, lot):
    """Whether all places of a curve are in a lot."""
    return all([arc_inside(arc, lot) for arc in curve])


def curve_lies_in(curve, lot):
    """Whether all places of a curve are in a lot."""
    require_curve(curve)
    require_lot(lot)
    return curve_inside(curve, lot)


def reaches_curve(arm, curve):
    """Whether all places of a curve but the far one are in an arm's reach."""
    reach = reach_lot(arm)
    require_curve(curve)
    return curve_inside(curve, reach)


def _place_on(curve, place):
    return any([place_on_arc(arc, place) for arc in curve])


def is_on(curve, place):
    """Whether a place lies on a curve."""
    require_curve(curve)
    require_place(place)
    return _place_on(curve, place)


def _crosses_plainly(curve, circle):
    """Whether a round goes through no end of an arc, and is no arc's round and touches none."""
    if 0 in [row_value(circle, arc[0]) for arc in curve]:
        return False
    for arc in curve:
        beside = round_of_arc(arc)
        if paired(circle, beside) * paired(circle, beside) == paired(circle, circle) * paired(beside, beside):
            return False
    return True


def _way_between(curve, place, other):
    """An arc between two places, not on a closed curve, that meets it at finitely many places and crosses it there."""
    (number, under), (other_number, other_under) = upper_and_lower(place), upper_and_lower(other)
    # This map leads the rounds through 0 and the far place to those through the two places.
    chart = map_from(0, (other_number, number, (other_under, 0), (under, 0)))
    slope = 0
    while True:
        way = (place, place_led(chart, (1, slope, 1)), other)
        # Each end bars one of these rounds, each arc's round itself and two that touch it; so the steps are few.
        if _crosses_plainly(curve, round_of_arc(way)):
            return way
        slope = slope + 1


def _are_parted(curve, place, other):
    if place == other:
        return False
    way = _way_between(curve, place, other)
    return sum([shared_by_arcs(way, arc) for arc in curve]) % 2 == 1


def parts(curve, place, other):
    """Whether two places lie in the two different pieces into which a closed simple curve parts all other places."""
    require_curve(curve)
    require_place(place)
    require_place(other)
    if not _closes(curve):
        raise NotClosed()
    if not _comes_nowhere_twice(curve):
        raise NotSimple()
    for spot in (place, other):
        if _place_on(curve, spot):
            raise OnCurve(spot)
    return _are_parted(curve, place, other)
