"""Cells, the arms that are made of them, and the one map that each of them is."""

from drawarms.errors import InvalidArm, InvalidCell
from drawarms.gauss import conjugate_of, minus, norm_of, scaled, times
from drawarms.maps import STAYS, joined, map_from, mirror_map, place_led
from drawarms.places import FAR, ZERO, is_ratio, require_place, upper_and_lower
from drawarms.rings import is_ring, keeps_ring
from drawarms.rounds import is_round
from drawarms.wholes import are_wholes, common_of

ONE = (1, 0, 1)
MOST_CELLS = 4


def _is_carry(value):
    return len(value) == 2 and is_ratio(value[1]) and value[1] != ZERO


def _is_grow(value):
    if len(value) != 4 or not is_ratio(value[1]) or not is_ratio(value[2]):
        return False
    return value[2] != ZERO and value[2] != ONE and is_ring(value[3])


def is_power(value):
    """Whether a value is a reduced pair of whole numbers, the first other than 0, the second above 0."""
    return are_wholes(value, 2) and value[0] != 0 and value[1] > 0 and common_of(value) == 1


def _is_turnabout(value):
    return len(value) == 4 and is_ratio(value[1]) and is_power(value[2]) and is_ring(value[3])


def is_line(value):
    """Whether a value is a line."""
    return is_round(value) and value[0] == 0


def _is_mirror(value):
    return len(value) == 2 and is_line(value[1])


FORMS = {"carry": _is_carry, "grow": _is_grow, "turnabout": _is_turnabout, "mirror": _is_mirror}


def is_cell(value):
    """Whether a value, whatever it is, is a cell."""
    if not isinstance(value, tuple) or len(value) == 0 or not isinstance(value[0], str) or value[0] not in FORMS:
        return False
    has_form = FORMS[value[0]]
    return has_form(value)


def is_arm(value):
    """Whether a value, whatever it is, is an arm."""
    if not isinstance(value, tuple) or len(value) > MOST_CELLS:
        return False
    return all([is_cell(cell) for cell in value])


def require_arm(arm):
    """Raise InvalidArm for what is no arm."""
    if not isinstance(arm, tuple):
        raise InvalidArm(None)
    for index, cell in enumerate(arm):
        if index == MOST_CELLS or not is_cell(cell):
            raise InvalidArm(index)


def _carry_map(cell):
    number, under = upper_and_lower(cell[1])
    return map_from(0, ((under, 0), number, (0, 0), (under, 0)))


def _grow_map(cell):
    pole, under = upper_and_lower(cell[1])
    ratio, ratio_under = upper_and_lower(cell[2])
    rest = times(pole, minus((ratio_under, 0), ratio))
    return map_from(0, (scaled(ratio, under), rest, (0, 0), (under * ratio_under, 0)))


def _turnabout_map(cell):
    pole, under = upper_and_lower(cell[1])
    upper, lower = cell[2]
    rest = upper * under * under - lower * norm_of(pole)
    both = lower * under
    return map_from(1, (scaled(pole, both), (rest, 0), (both * under, 0), scaled(conjugate_of(pole), -both)))


def _mirror_map(cell):
    return mirror_map(cell[1])


MAPS = {"carry": _carry_map, "grow": _grow_map, "turnabout": _turnabout_map, "mirror": _mirror_map}


def map_of_cell(cell):
    """The map of a cell."""
    make = MAPS[cell[0]]
    return make(cell)


def map_of_cells(cells):
    """The map of cells one after another."""
    chart = STAYS
    for cell in cells:
        chart = joined(map_of_cell(cell), chart)
    return chart


def cell_map(cell):
    """The map of a cell."""
    if not is_cell(cell):
        raise InvalidCell(cell)
    return map_of_cell(cell)


def arm_map(arm):
    """The map of an arm."""
    require_arm(arm)
    return map_of_cells(arm)


def cell_lets(cell, place):
    """Whether a cell lets a place."""
    if place == FAR:
        return False
    return keeps_ring(cell[3], cell[1], place) if len(cell) == 4 else True


def _pins(arm, place):
    if place == FAR:
        return None
    found = [place]
    for cell in arm:
        if not cell_lets(cell, found[-1]):
            return None
        found.append(place_led(map_of_cell(cell), found[-1]))
    return tuple(found)


def lets(arm, place):
    """Whether an arm lets a place."""
    return pins_of(arm, place) is not None


def pen_of(arm, place):
    """The place of the pen; None if the arm doesn't let the place."""
    pins = pins_of(arm, place)
    return None if pins is None else pins[-1]


def pins_of(arm, place):
    """The tuple of the tracer's place and the places behind each cell; None if the arm doesn't let the place."""
    require_arm(arm)
    require_place(place)
    return _pins(arm, place)
