"""What is settled about lots for all places, whether or not these are told by whole numbers."""

from drawarms.fields import planes_of, signs_about_far, signs_at, signs_behind, signs_found, spots_on
from drawarms.lots import either, less, require_lot
from drawarms.rounds import require_round
from drawarms.seek import place_in_field
from drawarms.skin import plane_of, some_spot
from drawarms.trees import tree_holds


def has_signs(lot, signs):
    """Whether the places with told signs, for the lot's rounds, are in the lot."""
    return tree_holds(lot.tree, {circle: side for circle, side in zip(lot.rounds, signs)})


def fields_in(lot):
    """The ascending list of the signs of the lot's fields."""
    return [signs for signs in sorted(signs_found(lot.rounds)) if has_signs(lot, signs)]


def holds_near(lot):
    """Whether a place other than the far one is in a lot."""
    found = signs_found(lot.rounds)
    return any([found[signs] and has_signs(lot, signs) for signs in found])


def in_just_one(lot, other):
    """The lot of the places that are in just one of two lots."""
    return either(less(lot, other), less(other, lot))


def is_empty(lot):
    """Whether no place is in a lot."""
    require_lot(lot)
    return not fields_in(lot)


def has_near_place(lot):
    """Whether a place other than the far one is in a lot."""
    require_lot(lot)
    return holds_near(lot)


def lies_inside(lot, other):
    """Whether all places of the first lot are in the other one."""
    return not fields_in(less(lot, other))


def is_same(lot, other):
    """Whether both lots have the same places."""
    return not fields_in(in_just_one(lot, other))


def open_fields_in(lot):
    """The signs of the lot's fields that are open."""
    return [signs for signs in fields_in(lot) if 0 not in signs]


def is_open_somewhere(lot):
    """Whether a lot has an open field."""
    require_lot(lot)
    return len(open_fields_in(lot)) > 0


def is_bounded(lot):
    """Whether all places of a lot lie in some circle's disc."""
    require_lot(lot)
    return not any([has_signs(lot, signs) for signs in signs_about_far(lot.rounds)])


def fields_of(lot):
    """The ascending tuple of the signs, for its rounds, of the lot's fields."""
    require_lot(lot)
    return tuple(fields_in(lot))


def open_place(lot):
    """A whole place of a lot, not the far one, if it is open somewhere; otherwise None."""
    fields = open_fields_in(lot)
    return place_in_field(lot.rounds, fields[0], ()) if fields else None


def any_place(lot):
    """Any whole place of a lot, not the far one, if it is open somewhere; otherwise None."""
    require_lot(lot)
    return open_place(lot)


def parting_place(lot, other):
    """Any whole place, not the far one, in just one of two lots, if these places are open somewhere; otherwise None."""
    return open_place(in_just_one(lot, other))


def stretches(circle, lot):
    """In how many stretches the places of a round that are in a lot lie on it; None if all of them are in the lot."""
    require_round(circle)
    require_lot(lot)
    plane, planes = plane_of(circle), planes_of(lot.rounds)
    spots = spots_on(plane, planes)
    if not spots:
        return None if has_signs(lot, signs_at(planes, some_spot(plane))) else 0
    many, are_all = 0, True
    for spot in spots:
        behind, ahead = [has_signs(lot, signs_behind(planes, plane, spot, way)) for way in (1, -1)]
        is_there = has_signs(lot, signs_at(planes, spot))
        are_all = are_all and is_there and behind
        # Places and the open stretches between them, less one for each such pair that hangs together.
        many = many + int(is_there) + int(behind) - int(is_there and behind) - int(is_there and ahead)
    return None if are_all else many
