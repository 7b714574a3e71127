"""Pencils of rounds, rounds that exchange two, and rounds that a map keeps."""

from drawarms.errors import InvalidSign
from drawarms.kept import kept_base, size_root
from drawarms.maps import require_map, row_led_back
from drawarms.places import require_place
from drawarms.rounds import mixed, paired, place_factors, require_both_rounds, require_round, require_unlike_rounds
from drawarms.rounds import round_from, row_value, shared
from drawarms.skin import met_spots, plane_of, spot_place
from drawarms.stairs import base_of, stairs_of
from drawarms.wholes import is_whole, whole_root

KINDS = ("about", "touching", "through")


def upright_equation(row):
    """The equation that rows solve which are upright to a row."""
    q, l, m, k = row
    return (-2 * k, l, m, -2 * q)


def _is_real(row):
    """Whether a row has more than one place."""
    return paired(row, row) > 0


def pencil_kind(circle, other):
    """Whether the rounds of a pencil share two places, one or none."""
    require_both_rounds(circle, other)
    require_unlike_rounds(circle, other)
    return KINDS[shared(circle, other)]


def in_pencil(circle, other, third):
    """Whether a third round is in the pencil of two."""
    require_both_rounds(circle, other)
    require_round(third)
    require_unlike_rounds(circle, other)
    return len(stairs_of([circle, other, third])) == 2


def _require_pencil(circle, other, place):
    require_both_rounds(circle, other)
    require_place(place)
    require_unlike_rounds(circle, other)


def pencil_round(circle, other, place):
    """The round of a pencil through a place; None if there is none or more than one."""
    _require_pencil(circle, other, place)
    row = mixed(circle, row_value(other, place), other, -row_value(circle, place))
    return round_from(row) if _is_real(row) else None


def upright_round(circle, other, place):
    """The round through a place that is upright to two rounds; None if there is none or more than one."""
    _require_pencil(circle, other, place)
    base = base_of([upright_equation(circle), upright_equation(other), place_factors(place)], 4)
    return round_from(base[0]) if len(base) == 1 and _is_real(base[0]) else None


def common_places(circle, other):
    """The ascending tuple of the whole places that two rounds share."""
    require_both_rounds(circle, other)
    require_unlike_rounds(circle, other)
    places = [spot_place(spot) for spot in list(met_spots(plane_of(circle), plane_of(other)).values())]
    return tuple(sorted([place for place in places if place is not None]))


def count_exchanging(circle, other):
    """How many rounds, told by whole numbers or not, exchange two rounds."""
    return 2 if pencil_kind(circle, other) == "through" else 1


def exchanging(circle, other):
    """The ascending tuple of the rounds told by whole numbers that exchange two rounds."""
    require_both_rounds(circle, other)
    require_unlike_rounds(circle, other)
    size = paired(other, other)
    root = whole_root(paired(circle, circle) * size)
    if root is None:
        return ()
    rows = [mixed(circle, size, other, root), mixed(circle, size, other, -root)]
    return tuple(sorted([round_from(row) for row in rows if _is_real(row)]))


def keeps_round(chart, circle):
    """1 if a map keeps a round with its sides, -1 if turning its sides over, otherwise 0."""
    require_map(chart)
    require_round(circle)
    root = size_root(chart)
    if root is None:
        return 0
    led = row_led_back(chart, circle)
    for way in (1, -1):
        if led == tuple([way * root * number for number in circle]):
            return way
    return 0


def _require_way(way):
    if not is_whole(way) or way not in (-1, 1):
        raise InvalidSign(way)


def kept_rows(chart, way):
    """Rows of which all rows that are kept in a way are sums of multiples."""
    require_map(chart)
    _require_way(way)
    return tuple(kept_base(chart, way))


def any_kept(chart, way):
    """Any round that a map keeps in a way and that is told by whole numbers; None if there is none."""
    rows = list(kept_rows(chart, way))
    if len(rows) > 1:
        # Each row ends at its free number, so of two rows one is a round's, or they are (1, 0, 0, 0) and (0, 0, 0, 1).
        rows.append(mixed(rows[0], 1, rows[1], -1))
    real = [row for row in rows if _is_real(row)]
    return round_from(real[0]) if real else None
