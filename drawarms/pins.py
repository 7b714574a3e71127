"""Parts of an arm's cells that may have been put wrong, and the values with which the arm fits tests."""

from drawarms.arms import is_cell, map_of_cells, require_arm
from drawarms.errors import InvalidIndex, InvalidPart, InvalidValue
from drawarms.lines import line_between
from drawarms.lots import beyond_row
from drawarms.maps import back_of, place_led
from drawarms.pencils import common_places
from drawarms.places import FAR, ZERO, difference_of, distance_of, product_of, quotient_of, sum_of
from drawarms.ratios import ONE, conjugate_ratio, halved, is_real, kept_pole, real_pair, real_ratio, root_of_pair
from drawarms.readback import require_tests
from drawarms.rounds import round_through, row_value
from drawarms.wholes import is_whole, reduced

PARTS = {"carry": ("shift",), "grow": ("pole", "ratio"), "turnabout": ("pole", "power"), "mirror": ("line",)}
ANY = ("any",)
NONE = ("values", ())


def is_index(value, many):
    """Whether a value is an index of one of so many things."""
    return is_whole(value) and 0 <= value < many


def is_part(value, cell):
    """Whether a value is a part of a cell."""
    return isinstance(value, str) and value in PARTS[cell[0]]


def _require_part(arm, index, part):
    require_arm(arm)
    if not is_index(index, len(arm)):
        raise InvalidIndex(index)
    if not is_part(part, arm[index]):
        raise InvalidPart(part)


def _where(cell, part):
    """The index at which a part stands in a cell."""
    return PARTS[cell[0]].index(part) + 1


def value_at_part(arm, index, part):
    """The value that stands at a part."""
    return arm[index][_where(arm[index], part)]


def part_of(arm, index, part):
    """The value that stands at a part of a cell."""
    _require_part(arm, index, part)
    return value_at_part(arm, index, part)


def cell_with(cell, part, value):
    """A cell with another value at a part, whatever this is."""
    at = _where(cell, part)
    return cell[:at] + (value,) + cell[at + 1:]


def arm_with(arm, index, part, value):
    """The mended arm."""
    return arm[:index] + (cell_with(arm[index], part, value),) + arm[index + 1:]


def mended(arm, index, part, value):
    """The arm with a value at a part of one of its cells."""
    _require_part(arm, index, part)
    if not is_cell(cell_with(arm[index], part, value)):
        raise InvalidValue(value)
    return arm_with(arm, index, part, value)


def misfits(arm, tests):
    """The ascending tuple of the indexes of the tests that an arm's map does not fit."""
    require_arm(arm)
    require_tests(tests)
    chart = map_of_cells(arm)
    return tuple([index for index, (place, goal) in enumerate(tests) if place_led(chart, place) != goal])


def _just(value):
    """What is told if one value alone fits."""
    return ("values", (value,))


def _shift_fitting(_, place, goal):
    if place == FAR and goal == FAR:
        return ANY
    if FAR in (place, goal) or place == goal:
        return NONE
    return _just(difference_of(goal, place))


def _grow_pole_fitting(cell, place, goal):
    if place == FAR and goal == FAR:
        return ANY
    if FAR in (place, goal):
        return NONE
    return _just(kept_pole(cell[2], difference_of(goal, product_of(cell[2], place))))


def _ratio_fitting(cell, place, goal):
    if place == FAR and goal == FAR:
        return ANY
    if FAR in (place, goal):
        return NONE
    if place == cell[1]:
        return ANY if goal == cell[1] else NONE
    ratio = quotient_of(difference_of(goal, cell[1]), difference_of(place, cell[1]))
    return NONE if ratio in (ZERO, ONE) else _just(ratio)


def _power_fitting(cell, place, goal):
    if (place, goal) in ((cell[1], FAR), (FAR, cell[1])):
        return ANY
    if FAR in (place, goal):
        return NONE
    power = product_of(difference_of(goal, cell[1]), conjugate_ratio(difference_of(place, cell[1])))
    return _just(real_pair(power)) if is_real(power) and power != ZERO else NONE


def _steps_to_poles(power, place, goal):
    """The fractions of half the way from one place to another that lead from its middle to the poles of a power."""
    (n, m), (n2, m2) = power, distance_of(place, goal)
    square = reduced((n2 * m + 4 * n * m2, n2 * m))
    root = root_of_pair(square) if square[0] >= 0 else None
    if root is None:
        return []
    return [root] if root[0] == 0 else [root, (-root[0], root[1])]


def _turnabout_pole_fitting(cell, place, goal):
    if FAR in (place, goal):
        return NONE if place == goal else _just(goal if place == FAR else place)
    if place == goal:
        return ("on", beyond_row(place, cell[2])) if cell[2][0] > 0 else NONE
    middle, half = halved(sum_of(place, goal)), halved(difference_of(goal, place))
    steps = [real_ratio(step) for step in _steps_to_poles(cell[2], place, goal)]
    return ("values", tuple([sum_of(middle, product_of(step, half)) for step in steps]))


def _line_fitting(_, place, goal):
    if place == FAR and goal == FAR:
        return ANY
    if FAR in (place, goal):
        return NONE
    return ("through", place) if place == goal else _just(line_between(place, goal))


FITTING = {
    ("carry", "shift"): _shift_fitting, ("grow", "pole"): _grow_pole_fitting, ("grow", "ratio"): _ratio_fitting,
    ("turnabout", "pole"): _turnabout_pole_fitting, ("turnabout", "power"): _power_fitting,
    ("mirror", "line"): _line_fitting,
}


def _is_among(value, told):
    """Whether a value is one of those that are told."""
    if told[0] == "values":
        return value in told[1]
    return row_value(told[1], value) == 0 if told[0] == "on" else row_value(value, told[1]) == 0


def _in_both(told, other):
    """What is told of the values that are told twice."""
    if told == ANY or told == other:
        return other
    if other == ANY:
        return told
    if told[0] == "values":
        return ("values", tuple([value for value in told[1] if _is_among(value, other)]))
    if other[0] == "values":
        return _in_both(other, told)
    if told[0] == "on":
        return ("values", common_places(told[1], other[1]))
    return _just(round_through(told[1], other[1], FAR))


def values_fitting(arm, index, part, tests):
    """Which values at a part fit tests."""
    cell = arm[index]
    ahead, behind = map_of_cells(arm[:index]), back_of(map_of_cells(arm[index + 1:]))
    fitting_one = FITTING[(cell[0], part)]
    told = ANY
    for place, goal in tests:
        told = _in_both(told, fitting_one(cell, place_led(ahead, place), place_led(behind, goal)))
    return ("values", tuple(sorted(told[1]))) if told[0] == "values" else told


def values_that_fit(arm, index, part, tests):
    """Which values at a part of a cell fit tests: any, the places on a round, the lines through a place, or some."""
    _require_part(arm, index, part)
    require_tests(tests)
    return values_fitting(arm, index, part, tests)


def faults(arm, tests):
    """The ascending tuple of the pairs of an index and a part at which some value fits tests, whole or not."""
    require_arm(arm)
    require_tests(tests)
    pairs = [(index, part) for index, cell in enumerate(arm) for part in PARTS[cell[0]]]
    return tuple(sorted([pair for pair in pairs if values_fitting(arm, pair[0], pair[1], tests) != NONE]))
