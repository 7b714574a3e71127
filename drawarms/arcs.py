"""Arcs: parts of rounds from a begin over a second place to an end."""

from drawarms.errors import InvalidArc
from drawarms.fields import planes_of, signs_at, signs_behind, spots_on
from drawarms.inside import has_signs
from drawarms.lots import require_lot
from drawarms.maps import place_led, require_map
from drawarms.places import is_place, require_place
from drawarms.reach import reach_lot
from drawarms.rounds import require_round, round_through
from drawarms.skin import combined, inner, lengthened, met_spots, outer, place_spot, plane_of, spot_side, spot_slope


def is_arc(value):
    """Whether a value, whatever it is, is a triple of different places."""
    if not isinstance(value, tuple) or len(value) != 3:
        return False
    return all([is_place(place) for place in value]) and len(set(value)) == 3


def require_arc(arc):
    """Raise InvalidArc for what is no arc."""
    if not is_arc(arc):
        raise InvalidArc(arc)


def round_of_arc(arc):
    """The round of an arc."""
    begin, over, end = arc
    return round_through(begin, over, end)


def arc_round(arc):
    """The round of an arc."""
    require_arc(arc)
    return round_of_arc(arc)


def _cut_of(arc, plane):
    """The plane through both ends, upright to the round's, above 0 at all other places of the arc."""
    begin, over, end = [place_spot(place) for place in arc]
    chord = combined(end[0], begin[2], begin[0], -end[2])
    normal = outer(chord, plane[0])
    cut = lengthened(normal, begin[2]), -inner(normal, begin[0])
    return cut if spot_side(cut, over) > 0 else (lengthened(cut[0], -1), -cut[1])


def told_arc(arc):
    """The planes of an arc: that of its round, and one on the side of which its places lie."""
    plane = plane_of(round_of_arc(arc))
    return plane, _cut_of(arc, plane)


def _has_spot(planes, spot):
    plane, cut = planes
    return spot_side(plane, spot) == 0 and spot_side(cut, spot) >= 0


def place_on_arc(arc, place):
    """Whether a place lies on an arc."""
    return _has_spot(told_arc(arc), place_spot(place))


def arc_holds(arc, place):
    """Whether a place lies on an arc."""
    require_arc(arc)
    require_place(place)
    return place_on_arc(arc, place)


def arc_led(chart, arc):
    """The arc to which a map leads an arc."""
    return tuple([place_led(chart, place) for place in arc])


def led_arc(chart, arc):
    """The arc to which a map leads an arc."""
    require_map(chart)
    require_arc(arc)
    return arc_led(chart, arc)


def arc_meets_round(arc, circle):
    """How many places of an arc lie on a round; None if all do."""
    require_arc(arc)
    require_round(circle)
    plane, cut = told_arc(arc)
    if plane == plane_of(circle):
        return None
    return len([spot for spot in list(met_spots(plane, plane_of(circle)).values()) if spot_side(cut, spot) >= 0])


def _shared_on_one_round(arc, other):
    """How many places two arcs of one round share; None if infinitely many."""
    ends, other_ends = (arc[0], arc[2]), (other[0], other[2])
    shared = [place for place in other_ends if place in ends]
    # If the arcs overlap, an end of the one lies within the other one, unless both have the same ends.
    inner_ends = [place for place in other_ends if place not in ends and place_on_arc(arc, place)]
    inner_ends.extend([place for place in ends if place not in other_ends and place_on_arc(other, place)])
    if inner_ends or (len(shared) == 2 and place_on_arc(arc, other[1])):
        return None
    return len(shared)


def shared_by_arcs(arc, other):
    """How many places two arcs share; None if infinitely many."""
    (plane, cut), (other_plane, other_cut) = told_arc(arc), told_arc(other)
    if plane == other_plane:
        return _shared_on_one_round(arc, other)
    spots = list(met_spots(plane, other_plane).values())
    return len([spot for spot in spots if spot_side(cut, spot) >= 0 and spot_side(other_cut, spot) >= 0])


def arcs_share(arc, other):
    """How many places two arcs share; None if infinitely many."""
    require_arc(arc)
    require_arc(other)
    return shared_by_arcs(arc, other)


def arc_inside(arc, lot):
    """Whether all places of an arc are in a lot."""
    plane, cut = told_arc(arc)
    begin, _, end = [place_spot(place) for place in arc]
    way = spot_slope(plane, cut, begin)
    planes = planes_of(lot.rounds)
    starts = [spot for spot in spots_on(plane, planes) if spot_side(cut, spot) > 0]
    starts.append(begin)
    if not all([has_signs(lot, signs_behind(planes, plane, spot, way)) for spot in starts]):
        return False
    return all([has_signs(lot, signs_at(planes, spot)) for spot in starts + [end]])


def arc_lies_in(arc, lot):
    """Whether all places of an arc are in a lot."""
    require_arc(arc)
    require_lot(lot)
    return arc_inside(arc, lot)


def reaches_arc(arm, arc):
    """Whether all places of an arc but the far one are in an arm's reach."""
    reach = reach_lot(arm)
    require_arc(arc)
    # The sides have their rims; so with all other places of an arc the far one, too, would be in the lot.
    return arc_inside(arc, reach)
