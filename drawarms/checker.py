"""The checker: which claims hold with which papers, whoever wrote them."""

from drawarms.arms import is_arm, is_cell, map_of_cells
from drawarms.chains import chain_count
from drawarms.complexes import is_complex
from drawarms.fewest import are_kinds, fewest_cells
from drawarms.fields import signs_found
from drawarms.kinds import return_of
from drawarms.lots import MOST_ROUNDS
from drawarms.maps import is_flag, is_map, place_led
from drawarms.pencils import keeps_round
from drawarms.pins import NONE, arm_with, cell_with, is_index, is_part, values_fitting
from drawarms.places import is_place
from drawarms.powers import base_for, exponents_in, is_base
from drawarms.readback import are_tests, crossed, fits
from drawarms.rounds import is_round, round_through, row_value, shared
from drawarms.stock import is_factor, is_stock
from drawarms.trees import rows_of_tree, tree_holds, tree_rounds
from drawarms.triples import map_through
from drawarms.wholes import are_wholes, is_whole


def _is_blank(paper):
    return isinstance(paper, tuple) and len(paper) == 0


def _one_map(claim, paper):
    _, arm, other = claim
    return _is_blank(paper) and is_arm(arm) and is_arm(other) and map_of_cells(arm) == map_of_cells(other)


def _two_maps(claim, paper):
    _, arm, other = claim
    if not is_arm(arm) or not is_arm(other) or not is_place(paper):
        return False
    return place_led(map_of_cells(arm), paper) != place_led(map_of_cells(other), paper)


def _returns(claim, paper):
    _, chart, many = claim
    return _is_blank(paper) and is_map(chart) and is_whole(many) and return_of(chart) == many


def _never_returns(claim, paper):
    return _is_blank(paper) and is_map(claim[1]) and return_of(claim[1]) is None


def _rounds_of(trees):
    """The ascending tuple of the different rounds of trees; None if one is no tree or there are too many."""
    rounds = []
    for tree in trees:
        if rows_of_tree(tree) is None:
            return None
        rounds.extend(tree_rounds(tree))
    rounds = sorted(set(rounds))
    return tuple(rounds) if len(rounds) <= MOST_ROUNDS else None


def _is_within(trees, rounds, signs):
    """Whether the places with told signs are in the lot of the first tree, and in none of the others."""
    sides = {circle: side for circle, side in zip(rounds, signs)}
    return tree_holds(trees[0], sides) and not any([tree_holds(tree, sides) for tree in trees[1:]])


def _holds_nowhere(claim, paper):
    """`none` and `inside`: no place is in the first lot, but for those in the second one, if there is one."""
    rounds = _rounds_of(claim[1:])
    if rounds is None or not _is_blank(paper):
        return False
    return not any([_is_within(claim[1:], rounds, signs) for signs in list(signs_found(rounds))])


def _holds_somewhere(claim, paper):
    """`some` and `outside`: a place with the paper's signs is in the first lot, and not in the second one."""
    rounds = _rounds_of(claim[1:])
    if rounds is None or not are_wholes(paper, len(rounds)) or paper not in signs_found(rounds):
        return False
    return _is_within(claim[1:], rounds, paper)


def _keeps(claim, paper):
    _, chart, circle, way = claim
    if not _is_blank(paper) or not is_map(chart) or not is_round(circle) or not is_whole(way):
        return False
    return keeps_round(chart, circle) == way


def _are_apart(circle, other):
    return is_round(circle) and is_round(other) and shared(circle, other) == 0


def _closes(claim, paper):
    _, circle, other, many = claim
    if not _is_blank(paper) or not _are_apart(circle, other) or not is_whole(many):
        return False
    return chain_count(circle, other) == many


def _never_closes(claim, paper):
    _, circle, other = claim
    return _is_blank(paper) and _are_apart(circle, other) and chain_count(circle, other) is None


def _fits(claim, paper):
    _, tests, chart = claim
    return _is_blank(paper) and are_tests(tests) and is_map(chart) and fits(chart, tests)


def _map_of_three(tests, indexes, hand):
    """The map of a hand that fits three tests; None if they are not unlike, or two of them are crossed."""
    three = tuple([tests[index] for index in indexes])
    if len(set(three)) < 3 or crossed(three) is not None:
        return None
    return map_through(hand, tuple([test[0] for test in three]), tuple([test[1] for test in three]))


def _is_other(tests, indexes, hand):
    """Whether the map of a hand that fits the first three of four tests does not fit the fourth."""
    chart = _map_of_three(tests, indexes[:3], hand)
    return chart is not None and not fits(chart, (tests[indexes[3]],))


def _are_indexes(value, many):
    return isinstance(value, tuple) and all([is_index(index, many) for index in value])


def _no_map(claim, paper):
    _, tests, hand = claim
    if not are_tests(tests) or not is_flag(hand) or not isinstance(paper, tuple) or len(paper) not in (3, 5):
        return False
    word, indexes = paper[0], paper[1:]
    if not isinstance(word, str) or not _are_indexes(indexes, len(tests)):
        return False
    if len(indexes) == 2:
        return word == "crossed" and crossed((tests[indexes[0]], tests[indexes[1]])) is not None
    return word == "other" and _is_other(tests, indexes, hand)


def _is_asked(claim):
    """Whether tests, a hand or None, and places stand behind the word of a claim."""
    if not are_tests(claim[1]) or not (claim[2] is None or is_flag(claim[2])):
        return False
    return all([is_place(place) for place in claim[3:]])


def _is_pair(paper):
    return isinstance(paper, tuple) and len(paper) == 2


def _is_fitting(chart, tests, hand):
    """Whether a value is a map of a hand that fits."""
    return is_map(chart) and (hand is None or chart[0] == hand) and fits(chart, tests)


def _is_settled_by(claim, chart, indexes):
    """Whether tests, told by their indexes, settle the place of a claim, with a map that fits."""
    _, tests, hand, place, _ = claim
    if len(indexes) == 1:
        return tests[indexes[0]][0] == place
    if len(indexes) == 4:
        return hand is None and _is_other(tests, indexes, 1 - chart[0])
    if len(indexes) != 3 or _map_of_three(tests, indexes, chart[0]) is None:
        return False
    first, second, third = [tests[index][0] for index in indexes]
    return hand is not None or row_value(round_through(first, second, third), place) == 0


def _settled(claim, paper):
    if not _is_asked(claim) or not _is_pair(paper):
        return False
    _, tests, hand, place, goal = claim
    chart, indexes = paper
    if not _is_fitting(chart, tests, hand) or not _are_indexes(indexes, len(tests)):
        return False
    return place_led(chart, place) == goal and _is_settled_by(claim, chart, indexes)


def _unsettled(claim, paper):
    if not _is_asked(claim) or not _is_pair(paper):
        return False
    _, tests, hand, place = claim
    if not all([_is_fitting(chart, tests, hand) for chart in paper]):
        return False
    return place_led(paper[0], place) != place_led(paper[1], place)


def _made(claim, paper):
    _, stock, ratio = claim
    if not is_stock(stock) or not is_factor(ratio) or not are_wholes(paper, len(stock)):
        return False
    # The exponents may be far too great for the product itself.
    base = base_for(stock + (ratio,))
    left = exponents_in(ratio, base)
    for many, step in zip(paper, stock):
        left = [number - many * beside for number, beside in zip(left, exponents_in(step, base))]
    return left[-1] % 4 == 0 and not any(left[:-1])


def _is_scale(value):
    if not isinstance(value, tuple) or len(value) != 4:
        return False
    base, weights, unit, many = value
    if not isinstance(base, tuple) or not all([is_complex(number) for number in base]) or not is_base(base):
        return False
    if not are_wholes(weights, len(base)) or not is_whole(unit) or not is_whole(many):
        return False
    return many >= 2 and 4 * unit % many == 0


def _not_made(claim, paper):
    _, stock, ratio = claim
    if not is_stock(stock) or not is_factor(ratio) or not _is_scale(paper):
        return False
    base, weights, unit, many = paper
    told = [exponents_in(one, base) for one in stock + (ratio,)]
    if None in told:
        return False
    heavy = [sum([part * weight for part, weight in zip(one, weights + (unit,))]) % many != 0 for one in told]
    return heavy[-1] and not any(heavy[:-1])


def _fewest(claim, paper):
    _, chart, kinds, many = claim
    if not is_map(chart) or not are_kinds(kinds) or not is_whole(many) or not is_arm(paper):
        return False
    if len(paper) != many or fewest_cells(chart, kinds) != many:
        return False
    return all([cell[0] in kinds for cell in paper]) and map_of_cells(paper) == chart


def _not_of(claim, paper):
    _, chart, kinds = claim
    return _is_blank(paper) and is_map(chart) and are_kinds(kinds) and fewest_cells(chart, kinds) is None


def _told_at_part(claim):
    """What the package tells of a claim's arm, index, part and tests; None if these are none."""
    arm, index, part, tests = claim[1:5]
    if not is_arm(arm) or not is_index(index, len(arm)) or not is_part(part, arm[index]) or not are_tests(tests):
        return None
    return values_fitting(arm, index, part, tests)


def _mended(claim, paper):
    told = _told_at_part(claim)
    if told is None or told[0] == "on":
        return False
    _, arm, index, part, tests = claim
    if not is_cell(cell_with(arm[index], part, paper)):
        return False
    return fits(map_of_cells(arm_with(arm, index, part, paper)), tests)


def _on(claim, paper):
    return _is_blank(paper) and is_round(claim[5]) and _told_at_part(claim) == ("on", claim[5])


def _not_there(claim, paper):
    return _is_blank(paper) and _told_at_part(claim) == NONE


LENGTHS = {
    "one map": 3, "two maps": 3, "return": 3, "no return": 2, "none": 2, "some": 2, "inside": 3, "outside": 3,
    "keeps": 4, "closes": 4, "never closes": 3, "fits": 3, "no map": 3, "settled": 5, "open": 4, "made": 3,
    "not made": 3, "fewest": 4, "not of": 3, "mended": 5, "on": 6, "not there": 5,
}
RULES = {
    "one map": _one_map, "two maps": _two_maps, "return": _returns, "no return": _never_returns,
    "none": _holds_nowhere, "some": _holds_somewhere, "inside": _holds_nowhere, "outside": _holds_somewhere,
    "keeps": _keeps, "closes": _closes, "never closes": _never_closes, "fits": _fits, "no map": _no_map,
    "settled": _settled, "open": _unsettled, "made": _made, "not made": _not_made, "fewest": _fewest, "not of": _not_of,
    "mended": _mended, "on": _on, "not there": _not_there,
}


def accepts(claim, paper):
    """Whether a claim holds with a paper, whatever both are."""
    if not isinstance(claim, tuple) or len(claim) == 0 or not isinstance(claim[0], str) or claim[0] not in RULES:
        return False
    if len(claim) != LENGTHS[claim[0]]:
        return False
    rule = RULES[claim[0]]
    return rule(claim, paper)
