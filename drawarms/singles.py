"""Single mirrors: mirror rows, the cells that they are, and which of them fit tests."""

from drawarms.arms import is_cell
from drawarms.errors import InvalidCell, InvalidMirrorRow, InvalidRing, NoRowFits
from drawarms.gauss import conjugate_of, minus, negative, plus, scaled, times, turned
from drawarms.lots import beyond_row
from drawarms.maps import map_from
from drawarms.places import quotient_place, require_place, upper_and_lower
from drawarms.readback import fits, require_tests
from drawarms.rings import is_ring
from drawarms.rounds import NULL, mirror_numbers, mixed, paired, round_from, row_middle
from drawarms.stairs import base_of
from drawarms.wholes import are_wholes, common_of, reduced, sign_of


def _is_mirror_row(value):
    if not are_wholes(value, 4) or common_of(value) != 1:
        return False
    return value > NULL and paired(value, value) != 0


def _require_mirror_row(row):
    if not _is_mirror_row(row):
        raise InvalidMirrorRow(row)


def _mirroring(row):
    return map_from(1, mirror_numbers(row))


def mirroring(row):
    """The map of a mirror row."""
    _require_mirror_row(row)
    return _mirroring(row)


def row_of_cell(cell):
    """The mirror row of a `turnabout` or a `mirror`."""
    if not is_cell(cell) or cell[0] not in ("turnabout", "mirror"):
        raise InvalidCell(cell)
    return cell[1] if cell[0] == "mirror" else beyond_row(cell[1], cell[2])


def cell_of_row(row, ring):
    """The cell with the map of a mirror row, with the ring if it has one."""
    _require_mirror_row(row)
    if not is_ring(ring):
        raise InvalidRing(ring)
    if row[0] == 0:
        return ("mirror", row)
    return ("turnabout", row_middle(row), reduced((paired(row, row), 4 * row[0] * row[0])), ring)


def row_fits(row, tests):
    """Whether the mirroring of a mirror row fits tests."""
    _require_mirror_row(row)
    return fits(_mirroring(row), tests)


def _equations(test):
    """The two real equations that a test makes for the numbers of a row."""
    (number, under), (goal, goal_under) = upper_and_lower(test[0]), upper_and_lower(test[1])
    first, second = scaled(goal, under), scaled(conjugate_of(number), goal_under)
    factors = [scaled(times(goal, conjugate_of(number)), 2), plus(first, second), turned(minus(second, first))]
    factors.append((2 * under * goal_under, 0))
    return [[factor[0] for factor in factors], [factor[1] for factor in factors]]


def _base(tests):
    """The base of the rows' space."""
    require_tests(tests)
    equations = []
    for test in tests:
        equations.extend(_equations(test))
    return base_of(equations, 4)


def rows_freedom(tests):
    """The dimension of the rows' space."""
    return len(_base(tests))


def rows_base(tests):
    """The rows of the base of the rows' space."""
    return tuple(_base(tests))


def _row_that_turns(rows):
    """A sum of some rows of which D is not 0; None if D is 0 for all rows of their space."""
    sums = [mixed(row, 1, before, 1) for at, row in enumerate(rows) for before in rows[:at]]
    # If D is 0 for all of these, it is so for all sums of multiples.
    found = [row for row in list(rows) + sums if paired(row, row) != 0]
    return found[0] if found else None


def fitting_row(tests):
    """Any mirror row that fits tests; None if there is none."""
    row = _row_that_turns(_base(tests))
    return None if row is None else round_from(row)


def _image_pair(row, place):
    """The two complex numbers whose quotient the mirroring of a row makes of a place."""
    q, l, m, k = row
    number, under = upper_and_lower(place)
    taken = conjugate_of(number)
    upper = minus(negative(times((l, m), taken)), (2 * k * under, 0))
    return upper, plus(scaled(taken, 2 * q), scaled((l, -m), under))


def _are_along(pair, other):
    return times(pair[0], other[1]) == times(pair[1], other[0])


def settled_image(tests, place):
    """The place to which all mirror rows that fit lead a place; None if it is not settled."""
    base = _base(tests)
    require_place(place)
    row = _row_that_turns(base)
    if row is None:
        raise NoRowFits()
    pairs = [_image_pair(one, place) for one in [row] + base]
    # The pair of a row whose D is not 0 is not (0, 0), so that all others have to be along it.
    if not all([_are_along(pairs[0], pair) for pair in pairs]):
        return None
    return quotient_place(pairs[0][0], pairs[0][1])


def _signs_of_turns(rows):
    """The signs that D has for rows of a space that are upright to one another, and of which it is the space."""
    signs = []
    row = _row_that_turns(rows)
    while row is not None:
        size = paired(row, row)
        signs.append(sign_of(size))
        rows = [mixed(other, size, row, -paired(other, row)) for other in rows]
        row = _row_that_turns(rows)
    return signs


def cells_that_fit(tests):
    """The ascending tuple of the words for the cells of which one fits: `above`, `below`, `line`."""
    base = _base(tests)
    signs = _signs_of_turns(base)
    words = []
    # Near each row with D above 0 there are rows whose first number is not 0, unless it is 0 in the whole space.
    if 1 in signs and any([row[0] != 0 for row in base]):
        words.append("above")
    if -1 in signs:
        words.append("below")
    if _has_line(base):
        words.append("line")
    return tuple(words)


def _has_line(base):
    """Whether some row of the space of a base is that of a line."""
    turning = [row for row in base if row[0] != 0]
    lines = [row for row in base if row[0] == 0]
    lines.extend([mixed(row, turning[0][0], turning[0], -row[0]) for row in turning[1:]])
    return any([row[1] != 0 or row[2] != 0 for row in lines])
