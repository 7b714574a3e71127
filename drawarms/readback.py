"""Tests: where the tracer was and where the pen was; which maps fit them, and what they settle."""

from drawarms.errors import InvalidHand, InvalidTests, NoMapFits
from drawarms.gauss import conjugate_of, negative, scaled, times
from drawarms.maps import is_flag, place_led, require_map, round_led
from drawarms.places import is_place, require_place, upper_and_lower
from drawarms.rounds import paired, require_round, round_through, row_value
from drawarms.stairs import stairs_of
from drawarms.triples import map_through

MOST_TESTS = 8
# Two tests leave at least one of these places unused.
SPARE_PLACES = ((0, 0, 1), (1, 0, 1), (1, 0, 0))


def _is_test(value):
    return isinstance(value, tuple) and len(value) == 2 and is_place(value[0]) and is_place(value[1])


def _first_wrong_test(value):
    """The index of the first element of a tuple that is no test, or the ninth; None if there is none."""
    for index, test in enumerate(value):
        if index == MOST_TESTS or not _is_test(test):
            return index
    return None


def are_tests(value):
    """Whether a value is a tuple of tests."""
    return isinstance(value, tuple) and _first_wrong_test(value) is None


def require_tests(tests):
    """Raise InvalidTests for what are no tests."""
    if not are_tests(tests):
        raise InvalidTests(_first_wrong_test(tests) if isinstance(tests, tuple) else None)


def _require_hand(hand):
    if not is_flag(hand):
        raise InvalidHand(hand)


def _require_some_hand(hand):
    if hand is not None:
        _require_hand(hand)


def _fits(chart, tests):
    return all([place_led(chart, place) == goal for place, goal in tests])


def fits(chart, tests):
    """Whether a map leads the first place of each test to its second one."""
    require_map(chart)
    require_tests(tests)
    return _fits(chart, tests)


def _are_crossed(test, other):
    return (test[0] == other[0]) != (test[1] == other[1])


def _crossed_pair(tests):
    for first, test in enumerate(tests):
        for second in range(first + 1, len(tests)):
            if _are_crossed(test, tests[second]):
                return first, second
    return None


def crossed(tests):
    """The least pair of indexes of crossed tests; None if there is none."""
    require_tests(tests)
    return _crossed_pair(tests)


def _equations(test, hand):
    """The two real equations that a test makes for the parts of a, b, c, d."""
    (number, under), (goal, goal_under) = upper_and_lower(test[0]), upper_and_lower(test[1])
    if hand == 1:
        number = conjugate_of(number)
    factors = [scaled(number, goal_under), (under * goal_under, 0)]
    factors.extend([negative(times(goal, number)), scaled(goal, -under)])
    real, imaginary = [], []
    for first, second in factors:
        real.extend([first, -second])
        imaginary.extend([second, first])
    return [real, imaginary]


def freedom(tests, hand):
    """The dimension of the space of all a, b, c, d that solve the equations of tests."""
    require_tests(tests)
    _require_hand(hand)
    equations = []
    for test in tests:
        equations.extend(_equations(test, hand))
    # Each complex dimension is two real ones.
    return 4 - len(stairs_of(equations)) // 2


def unlike_tests(tests):
    """The indexes of the tests that are equal to none before them."""
    return [index for index, test in enumerate(tests) if test not in tests[:index]]


def _spare_place(places):
    return [place for place in SPARE_PLACES if place not in places][0]


def _map_of_first(tests, hand):
    """The map of a hand that fits the first three unlike tests, or any one that fits less; no two are crossed."""
    indexes = unlike_tests(tests)[:3]
    sources, goals = [tests[index][0] for index in indexes], [tests[index][1] for index in indexes]
    while len(sources) < 3:
        sources.append(_spare_place(sources))
        goals.append(_spare_place(goals))
    return map_through(hand, tuple(sources), tuple(goals))


def _fitting(tests, hand):
    """Any map of a hand that fits; None if there is none."""
    if _crossed_pair(tests) is not None:
        return None
    chart = _map_of_first(tests, hand)
    return chart if _fits(chart, tests) else None


def _fitting_maps(tests, hand):
    """A map of each hand, of those asked about, of which one fits."""
    asked = (0, 1) if hand is None else (hand,)
    charts = [_fitting(tests, one) for one in asked]
    return [chart for chart in charts if chart is not None]


def hands(tests):
    """The ascending tuple of the hands of which some map fits."""
    require_tests(tests)
    return tuple([chart[0] for chart in _fitting_maps(tests, None)])


def fitting(tests, hand):
    """Any map of a hand that fits, a plain one for both hands if one fits; None if there is none."""
    require_tests(tests)
    _require_some_hand(hand)
    charts = _fitting_maps(tests, hand)
    return charts[0] if charts else None


def bar(tests, hand):
    """What bars all maps of a hand; None if some map fits."""
    require_tests(tests)
    _require_hand(hand)
    pair = _crossed_pair(tests)
    if pair is not None:
        return ("crossed",) + pair
    chart = _map_of_first(tests, hand)
    others = [index for index, test in enumerate(tests) if not _fits(chart, (test,))]
    return ("other",) + tuple(unlike_tests(tests)[:3]) + (others[0],) if others else None


def _round_of_tests(tests):
    """The round through the first places of three unlike tests, no two of them crossed."""
    first, second, third = [tests[index][0] for index in unlike_tests(tests)[:3]]
    return round_through(first, second, third)


def _is_settled(tests, charts, place):
    """Whether tests settle a place, with a map of each hand, of those asked about, of which one fits."""
    if place in [test[0] for test in tests]:
        return True
    if len(unlike_tests(tests)) < 3:
        return False
    return len(charts) == 1 or row_value(_round_of_tests(tests), place) == 0


def _maps_that_fit(tests, hand):
    charts = _fitting_maps(tests, hand)
    if not charts:
        raise NoMapFits()
    return charts


def settled(tests, hand, place):
    """The place to which all maps that fit lead a place; None if it is not settled."""
    require_tests(tests)
    _require_some_hand(hand)
    require_place(place)
    charts = _maps_that_fit(tests, hand)
    return place_led(charts[0], place) if _is_settled(tests, charts, place) else None


def _is_round_settled(tests, charts, circle):
    if len(unlike_tests(tests)) < 3:
        return False
    if len(charts) == 1:
        return True
    through = _round_of_tests(tests)
    return circle == through or paired(circle, through) == 0


def settled_round(tests, hand, circle):
    """The round to which all maps that fit lead a round; None if it is not settled."""
    require_tests(tests)
    _require_some_hand(hand)
    require_round(circle)
    charts = _maps_that_fit(tests, hand)
    return round_led(charts[0], circle) if _is_round_settled(tests, charts, circle) else None


def is_pinned(tests, hand):
    """Whether just one map of a hand fits."""
    require_tests(tests)
    _require_some_hand(hand)
    return len(_fitting_maps(tests, hand)) == 1 and len(unlike_tests(tests)) >= 3


def needed(tests, hand):
    """The ascending tuple of the indexes of tests that are left if each that the others settle is left out."""
    require_tests(tests)
    _require_some_hand(hand)
    if not _fitting_maps(tests, hand):
        raise NoMapFits()
    left = list(range(len(tests)))
    for index in range(len(tests) - 1, -1, -1):
        others = [at for at in left if at != index]
        beside = tuple([tests[at] for at in others])
        if _is_settled(beside, _fitting_maps(beside, hand), tests[index][0]):
            left = others
    return tuple(left)
