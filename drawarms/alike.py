"""Where two maps agree, and on which places two arms draw alike."""

from drawarms.arcs import round_of_arc
from drawarms.arms import map_of_cells, pen_of
from drawarms.curves import curve_inside, require_curve
from drawarms.fields import SIDES, planes_of, signs_at, signs_found, stretches_of, with_side
from drawarms.inside import has_signs, holds_near
from drawarms.kept import keeps_spot, round_of_mirror
from drawarms.kinds import staying, staying_places
from drawarms.lots import both
from drawarms.maps import STAYS, back_of, joined, require_map
from drawarms.reach import lot_of_reach, require_arms, same_reach
from drawarms.rounds import require_round
from drawarms.seek import place_in_field
from drawarms.skin import is_far_spot


def _difference(chart, other):
    """The map that keeps the places at which two maps agree."""
    return joined(back_of(other), chart)


def agreement(chart, other):
    """The places that both maps lead to the same one."""
    require_map(chart)
    require_map(other)
    between = _difference(chart, other)
    if between == STAYS:
        return ("all",)
    circle = round_of_mirror(between)
    if circle is not None:
        return ("round", circle)
    return ("places", staying(between), staying_places(between))


def agree_on(chart, other, circle):
    """Whether two maps lead each place of a round to the same one."""
    require_map(chart)
    require_map(other)
    require_round(circle)
    between = _difference(chart, other)
    return between == STAYS or round_of_mirror(between) == circle


def mirror_round(chart):
    """The round in which a map is the mirror; None if it is none."""
    require_map(chart)
    return round_of_mirror(chart)


def agree_at(arm, other, place):
    """Whether both arms let a place and have the same pen."""
    require_arms(arm, other)
    pen = pen_of(arm, place)
    return pen is not None and pen == pen_of(other, place)


def _between_arms(arm, other):
    return _difference(map_of_cells(arm), map_of_cells(other))


def _with_round(lot, circle):
    """The rounds of a lot, and behind them another one, unless it is None or one of these."""
    return lot.rounds if circle is None or circle in lot.rounds else lot.rounds + (circle,)


def _lies_on(lot, circle):
    """Whether all places of a lot but the far one lie on a round."""
    rounds = _with_round(lot, circle)
    found = signs_found(rounds)
    at = rounds.index(circle)
    return all([signs[at] == 0 for signs in found if found[signs] and has_signs(lot, signs)])


def _keeps_all_of(chart, lot):
    """Whether a map that keeps two places at most keeps all places of a lot but the far one."""
    if not lot.rounds:
        return not holds_near(lot)
    planes = planes_of(lot.rounds)
    for at, spot, behind in stretches_of(planes):
        if any([has_signs(lot, with_side(behind, at, side)) for side in SIDES]):
            return False
        if has_signs(lot, signs_at(planes, spot)) and not is_far_spot(spot) and not keeps_spot(chart, spot):
            return False
    return True


def _reached_by_both(arm, other):
    """The lot of both reaches, and the map that keeps the places at which the pens are the same."""
    require_arms(arm, other)
    return both(lot_of_reach(arm), lot_of_reach(other)), _between_arms(arm, other)


def alike_together(arm, other):
    """Whether the pens are the same at all places that are in both reaches."""
    lot, between = _reached_by_both(arm, other)
    if between == STAYS:
        return True
    circle = round_of_mirror(between)
    return _keeps_all_of(between, lot) if circle is None else _lies_on(lot, circle)


def alike(arm, other):
    """Whether both reaches are the same, and the pens at all their places."""
    return same_reach(arm, other) and alike_together(arm, other)


def _agree_on_curve(arm, other, curve):
    between = _between_arms(arm, other)
    if between == STAYS:
        return True
    circle = round_of_mirror(between)
    return all([round_of_arc(arc) == circle for arc in curve])


def draw_alike(arm, other, curve):
    """Whether all places of a curve but the far one are in both reaches, and the pens are the same at these."""
    require_arms(arm, other)
    require_curve(curve)
    if not curve_inside(curve, lot_of_reach(arm)) or not curve_inside(curve, lot_of_reach(other)):
        return False
    return _agree_on_curve(arm, other, curve)


def parting_drawing(arm, other):
    """Any whole place in both reaches at which the pens differ, if these are open somewhere; otherwise None."""
    lot, between = _reached_by_both(arm, other)
    if between == STAYS:
        return None
    circle = round_of_mirror(between)
    rounds = _with_round(lot, circle)
    fields = [signs for signs in sorted(signs_found(rounds)) if 0 not in signs and has_signs(lot, signs)]
    if not fields:
        return None
    return place_in_field(rounds, fields[0], staying_places(between) if circle is None else ())
