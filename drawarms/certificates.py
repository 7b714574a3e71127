"""Claims with papers that the checker accepts."""

from drawarms.arms import map_of_cells
from drawarms.chains import chain_count
from drawarms.fewest import least_arm
from drawarms.inside import fields_in
from drawarms.kinds import return_of
from drawarms.lines import line_along
from drawarms.lots import less, require_lot
from drawarms.maps import place_led
from drawarms.pencils import keeps_round
from drawarms.pins import NONE, value_at_part, values_that_fit
from drawarms.places import FAR
from drawarms.reach import require_arms
from drawarms.ratios import TURN
from drawarms.readback import bar, fitting, hands, settled, unlike_tests
from drawarms.stock import exponents_for, scale_for

# Two maps that agree at all four are the same: only the mirror in the line through the first three keeps these.
FOUR_PLACES = (FAR, (0, 0, 1), (1, 0, 1), (0, 1, 1))


def certify_maps(arm, other):
    """Whether two arms have the same map."""
    require_arms(arm, other)
    chart, other_chart = map_of_cells(arm), map_of_cells(other)
    if chart == other_chart:
        return ("one map", arm, other), ()
    parting = [place for place in FOUR_PLACES if place_led(chart, place) != place_led(other_chart, place)]
    return ("two maps", arm, other), parting[0]


def certify_return(chart):
    """After how many times a map stays."""
    many = return_of(chart)
    return (("no return", chart) if many is None else ("return", chart, many)), ()


def certify_lot(lot):
    """Whether a place is in a lot."""
    require_lot(lot)
    fields = fields_in(lot)
    return (("some", lot.tree), fields[0]) if fields else (("none", lot.tree), ())


def certify_inside(lot, other):
    """Whether all places of the first lot are in the other one."""
    fields = fields_in(less(lot, other))
    return (("outside", lot.tree, other.tree), fields[0]) if fields else (("inside", lot.tree, other.tree), ())


def certify_round(chart, circle):
    """In which way a map keeps a round."""
    return ("keeps", chart, circle, keeps_round(chart, circle)), ()


def certify_chain(circle, other):
    """With how many links chains close."""
    many = chain_count(circle, other)
    return (("never closes", circle, other) if many is None else ("closes", circle, other, many)), ()


def certify_tests(tests, hand):
    """Whether a map of a hand fits tests."""
    barred = bar(tests, hand)
    return (("fits", tests, fitting(tests, hand)), ()) if barred is None else (("no map", tests, hand), barred)


def _settling_indexes(tests, hand, place):
    """The indexes of tests that show that a place is settled."""
    sources = [test[0] for test in tests]
    if place in sources:
        return (sources.index(place),)
    found = hands(tests)
    if hand is None and len(found) == 1:
        return bar(tests, 1 - found[0])[1:]
    return tuple(unlike_tests(tests)[:3])


def _parting_maps(tests, hand, place):
    """Two maps that fit and lead a place that is not settled to different places."""
    unlike = tuple([tests[index] for index in unlike_tests(tests)])
    if len(unlike) > 2:
        return fitting(tests, 0), fitting(tests, 1)
    goals = [test[1] for test in unlike]
    spare = [goal for goal in FOUR_PLACES if goal not in goals]
    return tuple([fitting(unlike + ((place, goal),), 1 if hand == 1 else 0) for goal in spare[:2]])


def certify_place(tests, hand, place):
    """Whether tests settle a place."""
    goal = settled(tests, hand, place)
    if goal is None:
        return ("open", tests, hand, place), _parting_maps(tests, hand, place)
    return ("settled", tests, hand, place, goal), (fitting(tests, hand), _settling_indexes(tests, hand, place))


def certify_ratio(stock, ratio):
    """Whether a stock makes a ratio."""
    exponents = exponents_for(stock, ratio)
    if exponents is None:
        return ("not made", stock, ratio), scale_for(stock, ratio)
    return ("made", stock, ratio), exponents


def certify_cells(chart, kinds, ring):
    """The fewest cells of some kinds that make a map."""
    arm = least_arm(chart, kinds, ring)
    return (("not of", chart, kinds), ()) if arm is None else (("fewest", chart, kinds, len(arm)), arm)


def certify_part(arm, index, part, tests):
    """Whether some value at a part of a cell fits tests."""
    told = values_that_fit(arm, index, part, tests)
    if told == NONE:
        return ("not there", arm, index, part, tests), ()
    if told[0] == "on":
        return ("on", arm, index, part, tests, told[1]), ()
    if told[0] == "any":
        value = value_at_part(arm, index, part)
    else:
        value = line_along(told[1], TURN) if told[0] == "through" else told[1][0]
    return ("mended", arm, index, part, tests), value
