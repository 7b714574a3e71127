"""How far an arm reaches, settled for all places."""

from drawarms.arms import cell_lets, map_of_cell, map_of_cells, require_arm
from drawarms.inside import holds_near, in_just_one, open_place, stretches
from drawarms.lots import Lot, beyond_row, less
from drawarms.maps import place_led, require_map, row_led_back
from drawarms.places import require_place
from drawarms.rounds import opposite, require_row
from drawarms.wholes import reduced


def row_back(chart, row):
    """The row that a map leads back from a row, with its sign."""
    require_map(chart)
    require_row(row)
    return reduced(row_led_back(chart, row))


def _sides_of_cell(cell, chart):
    """The sides on which a tracer has to lie for a cell behind a map."""
    if len(cell) == 2:
        return []
    low, high = [reduced(row_led_back(chart, beyond_row(cell[1], square))) for square in cell[3]]
    return [("side", low), ("side", opposite(high))]


def lot_of_reach(arm):
    """The lot of an arm's reach."""
    sides = []
    for index, cell in enumerate(arm):
        sides.extend(_sides_of_cell(cell, map_of_cells(arm[:index])))
    return Lot(("and", tuple(sides)) if sides else ("all",))


def reach_lot(arm):
    """The lot of an arm's reach; the far place belongs to it for an arm without rings alone."""
    require_arm(arm)
    return lot_of_reach(arm)


def first_bar(arm, place):
    """The index of the first cell that does not let the place that comes to it; None if there is none."""
    require_arm(arm)
    require_place(place)
    for index, cell in enumerate(arm):
        if not cell_lets(cell, place):
            return index
        place = place_led(map_of_cell(cell), place)
    return None


def reaches_nothing(arm):
    """Whether no place is in an arm's reach."""
    return not holds_near(reach_lot(arm))


def reaches_lot(arm, lot):
    """Whether all places of a lot but the far one are in an arm's reach."""
    reach = reach_lot(arm)
    return not holds_near(less(lot, reach))


def reaches_round(arm, circle):
    """Whether all places of a round but the far one are in an arm's reach."""
    reach = reach_lot(arm)
    # The sides have their rims; so with all other places of a line the far one, too, would be in the lot.
    return stretches(circle, reach) is None


def require_arms(arm, other):
    """Raise InvalidArm for the first one that is no arm."""
    require_arm(arm)
    require_arm(other)


def reaches_all(arm, other):
    """Whether all places of the reach of the other arm are in that of the first one."""
    require_arms(arm, other)
    return not holds_near(less(lot_of_reach(other), lot_of_reach(arm)))


def same_reach(arm, other):
    """Whether both reaches are the same."""
    require_arms(arm, other)
    return not holds_near(in_just_one(lot_of_reach(arm), lot_of_reach(other)))


def parting_reach(arm, other):
    """Any whole place in just one of two reaches, if these places are open somewhere; otherwise None."""
    require_arms(arm, other)
    return open_place(in_just_one(lot_of_reach(arm), lot_of_reach(other)))
