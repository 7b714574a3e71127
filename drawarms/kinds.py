"""What becomes of places when a map is done again and again."""

from drawarms.errors import InvalidMap, InvalidNumber
from drawarms.gauss import NOUGHT, complex_root, conjugate_of, minus, norm_of, plus, scaled, times
from drawarms.maps import STAYS, back_of, joined, place_led, require_map
from drawarms.matrices import determinant
from drawarms.places import FAR, quotient_place, require_place
from drawarms.wholes import is_whole

MOST = 60
WORDS = ("stays", "settles", "winds", "pulls", "swings", "spirals", "mirror", "flips")
RETURNS = {(0, 0, 1): 2, (1, 0, 1): 3, (2, 0, 1): 4, (3, 0, 1): 6}
KEPT_BY_PLAIN = {"stays": "all", "settles": 1, "winds": 2, "pulls": 2, "swings": 2, "spirals": 2}
KEPT_BY_MIRRORED = {"mirror": "round", "flips": 0, "settles": 1, "winds": 0, "pulls": 2}


def _plain_trace_ratio(chart):
    trace = plus(chart[1], chart[4])
    return quotient_place(times(trace, trace), determinant(chart[1:]))


def _plain_kind(chart):
    if chart == STAYS:
        return "stays"
    p, s, r = _plain_trace_ratio(chart)
    if s != 0:
        return "spirals"
    if p < 0:
        return "swings"
    if p == 4 * r:
        return "settles"
    return "winds" if p < 4 * r else "pulls"


def mirrored_kind(chart):
    """The word for a mirrored map."""
    square = joined(chart, chart)
    if square != STAYS:
        return _plain_kind(square)
    # The four numbers after their conjugates are a real multiple of the map that stays. If it is above 0
    # they lead some round as a mirror does, otherwise every place goes to another one.
    a, b, c, _ = chart[1:]
    return "mirror" if norm_of(a) + times(b, conjugate_of(c))[0] > 0 else "flips"


def _kind(chart):
    return mirrored_kind(chart) if chart[0] else _plain_kind(chart)


def kind_of(chart):
    """The word for what becomes of places."""
    require_map(chart)
    return _kind(chart)


def trace_ratio(chart):
    """The ratio of (a + d) squared and the determinant of a plain map."""
    require_map(chart)
    if chart[0]:
        raise InvalidMap(chart)
    return _plain_trace_ratio(chart)


def _plain_return(chart):
    return 1 if chart == STAYS else RETURNS.get(_plain_trace_ratio(chart))


def return_of(chart):
    """The least number above 0 of times after which the map stays; None for none."""
    require_map(chart)
    if chart[0] == 0:
        return _plain_return(chart)
    many = _plain_return(joined(chart, chart))
    return None if many is None else 2 * many


def staying(chart):
    """How many places, told by whole numbers or not, a map keeps: 0, 1 or 2, `all` or `round`."""
    require_map(chart)
    return KEPT_BY_MIRRORED[_kind(chart)] if chart[0] else KEPT_BY_PLAIN[_kind(chart)]


def _whole_kept_places(chart):
    """The places that a plain map keeps, which doesn't stay."""
    a, b, c, d = chart[1:]
    across = minus(a, d)
    if c == NOUGHT:
        return [FAR] if across == NOUGHT else [FAR, quotient_place(b, minus(d, a))]
    root = complex_root(plus(times(across, across), scaled(times(b, c), 4)))
    if root is None:
        return []
    first = quotient_place(plus(across, root), scaled(c, 2))
    return [first] if root == NOUGHT else [first, quotient_place(minus(across, root), scaled(c, 2))]


def staying_places(chart):
    """The ascending tuple of the kept places that are whole; None if infinitely many places are kept."""
    require_map(chart)
    kind = _kind(chart)
    if kind == "stays" or kind == "mirror":
        return None
    if kind == "flips":
        return ()
    # What a mirrored map keeps, its square keeps, too; but the square may also keep two places that change.
    places = _whole_kept_places(joined(chart, chart) if chart[0] else chart)
    return tuple(sorted([place for place in places if place_led(chart, place) == place]))


def _require_number(many):
    if not is_whole(many) or not -MOST <= many <= MOST:
        raise InvalidNumber(many)


def _power(chart, many):
    step = chart if many > 0 else back_of(chart)
    reached = STAYS
    for _ in range(abs(many)):
        reached = joined(reached, step)
    return reached


def power_of(chart, many):
    """The map done so many times; its back, if this is below 0."""
    require_map(chart)
    _require_number(many)
    return _power(chart, many)


def place_after(chart, place, many):
    """What the power of a map makes of a place."""
    require_map(chart)
    require_place(place)
    _require_number(many)
    return place_led(_power(chart, many), place)
