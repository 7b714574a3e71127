"""Which claims are so, by the words of [43] and the functions that are tested elsewhere; and how values are spoilt."""

import itertools

from drawarms.arms import arm_map, is_arm, is_cell
from drawarms.chains import chain_count
from drawarms.fewest import fewest_cells
from drawarms.kinds import return_of
from drawarms.maps import is_map, led_place
from drawarms.meetings import signs_for
from drawarms.pencils import keeps_round
from drawarms.pins import values_that_fit
from drawarms.places import is_place
from drawarms.readback import fits, hands, settled
from drawarms.rounds import round_of, shared
from drawarms.stock import is_made
from tests.oracles import tree_has
from tests.support import FAR

WORDS = {
    "one map": "arm arm", "two maps": "arm arm", "return": "map whole", "no return": "map", "none": "tree", "some": "tree",
    "inside": "tree tree", "outside": "tree tree", "keeps": "map round whole", "closes": "round round whole",
    "never closes": "round round",
    "fits": "tests map", "no map": "tests hand", "settled": "tests any-hand place place", "open": "tests any-hand place",
    "made": "stock ratio",
    "not made": "stock ratio", "fewest": "map kinds whole", "not of": "map kinds", "mended": "arm index part tests",
    "on": "arm index part tests round", "not there": "arm index part tests",
}


def is_whole(value):
    return type(value) is int


def is_tree(value):
    if type(value) is not tuple or not value or type(value[0]) is not str:
        return False
    word, more = value[0], value[1:]
    if word == "all":
        return more == ()
    if len(more) != 1:
        return False
    if word in ("side", "rim"):
        return type(more[0]) is tuple and len(more[0]) == 4 and all(map(is_whole, more[0])) and is_row(more[0])
    if word == "not":
        return is_tree(more[0])
    return word in ("and", "or") and type(more[0]) is tuple and 1 <= len(more[0]) <= 8 and all(map(is_tree, more[0]))


def is_row(row):
    try:
        round_of(row)
    except ValueError:
        return False
    return True


def is_round(value):
    return type(value) is tuple and len(value) == 4 and all(map(is_whole, value)) and is_row(value) and round_of(value) == value


def is_test(value):
    return type(value) is tuple and len(value) == 2 and all(map(is_place, value))


def is_ratio(value):
    return is_place(value) and value not in (FAR, (0, 0, 1))


FORMS = {
    "arm": is_arm, "map": is_map, "whole": is_whole, "tree": is_tree, "round": is_round, "place": is_place, "ratio": is_ratio,
    "index": is_whole,
    "tests": lambda value: type(value) is tuple and len(value) <= 8 and all(map(is_test, value)),
    "hand": lambda value: is_whole(value) and value in (0, 1),
    "any-hand": lambda value: value is None or (is_whole(value) and value in (0, 1)),
    "stock": lambda value: type(value) is tuple and 1 <= len(value) <= 6 and all(is_ratio(one) and one != (1, 0,
    1) for one in value),
    "kinds": lambda value: type(value) is tuple and all(type(one) is str and one in ("carry", "grow", "turnabout",
    "mirror") for one in value)
    and len(set(value)) == len(value),
    "part": lambda value: type(value) is str,
}


def has_form(claim):
    """Whether a value is a claim, so or not."""
    if type(claim) is not tuple or not claim or type(claim[0]) is not str or claim[0] not in WORDS:
        return False
    forms = WORDS[claim[0]].split()
    if len(claim) != 1 + len(forms) or not all(FORMS[form](part) for form, part in zip(forms, claim[1:])):
        return False
    if "tree" in forms:
        return len(rounds_of(claim[1:])) <= 8
    if "closes" in claim[0]:
        return shared(claim[1], claim[2]) == 0
    if "part" in forms:
        parts = {"carry": ("shift",), "grow": ("pole", "ratio"), "turnabout": ("pole", "power"), "mirror": ("line",)}
        return 0 <= claim[2] < len(claim[1]) and claim[3] in parts[claim[1][claim[2]][0]]
    return True


def rounds_of(trees):
    found, todo = set(), list(trees)
    while todo:
        tree = todo.pop()
        if tree[0] in ("side", "rim"):
            found.add(round_of(tree[1]))
        elif tree[0] == "not":
            todo.append(tree[1])
        elif tree[0] != "all":
            todo.extend(tree[1])
    return tuple(sorted(found))


def signs_within(trees):
    """The signs of the places of the first lot that are in none of the others."""
    rounds = rounds_of(trees)
    told = [(signs, dict(zip(rounds, signs))) for signs in signs_for(rounds)]
    return [signs for signs, sides in told if tree_has(trees[0], sides) and not any(tree_has(tree, sides) for tree in trees[1:])]


def is_so(claim):
    """Whether a value is a claim that is so."""
    return has_form(claim) and TRUTHS[claim[0]](*claim[1:])


def no_map_fits(tests, hand):
    return hand not in hands(tests)


def fits_some(tests, hand):
    return bool(hands(tests)) if hand is None else hand in hands(tests)


TRUTHS = {
    "one map": lambda arm, other: arm_map(arm) == arm_map(other), "two maps": lambda arm, other: arm_map(arm) != arm_map(other),
    "return": lambda chart, many: return_of(chart) == many, "no return": lambda chart: return_of(chart) is None,
    "none": lambda tree: not signs_within([tree]), "some": lambda tree: bool(signs_within([tree])),
    "inside": lambda tree, other: not signs_within([tree, other]), "outside": lambda tree,
    other: bool(signs_within([tree, other])),
    "keeps": lambda chart, circle, way: keeps_round(chart, circle) == way, "closes": lambda circle, other,
    many: chain_count(circle, other) == many,
    "never closes": lambda circle, other: chain_count(circle, other) is None, "fits": lambda tests, chart: fits(chart, tests),
    "no map": no_map_fits, "settled": lambda tests, hand, place,
    goal: fits_some(tests, hand) and settled(tests, hand, place) == goal,
    "open": lambda tests, hand, place: fits_some(tests, hand) and settled(tests, hand, place) is None, "made": is_made,
    "not made": lambda stock, ratio: not is_made(stock, ratio), "fewest": lambda chart, kinds,
    many: fewest_cells(chart, kinds) == many,
    "not of": lambda chart, kinds: fewest_cells(chart, kinds) is None,
    "mended": lambda *told: values_that_fit(*told)[0] != "on" and values_that_fit(*told) != ("values", ()),
    "on": lambda *told: values_that_fit(*told[:4]) == ("on", told[4]),
    "not there": lambda *told: values_that_fit(*told) == ("values", ()),
}


def is_value_that_fits(claim, value):
    """Whether a value may stand at the part of a claim and fits its tests."""
    _, arm, index, part, tests = claim
    at = {"shift": 1, "pole": 1, "line": 1, "ratio": 2, "power": 2}[part]
    cell = arm[index][:at] + (value,) + arm[index][at + 1:]
    return is_cell(cell) and all(led_place(arm_map(arm[:index] + (cell,) + arm[index + 1:]), place) == goal for place,
        goal in tests)


def misformed(value):
    """A value with a list for a tuple, a bool for a number, bytes for a string, or something else for all of it, in each place."""
    yield [value]
    if type(value) is tuple:
        yield list(value)
        for at, part in enumerate(value):
            for spoilt in misformed(part):
                yield value[:at] + (spoilt,) + value[at + 1:]
    elif type(value) is int:
        yield from (True, False, str(value), (value,), b"1", {value: 1})
    elif type(value) is str:
        yield from (value.encode(), value.upper(), value + " ", value[1:], (value,), "")


def changed(value):
    """A value with one number or word changed, a part left out, put in, or changed with another one, in each place."""
    if type(value) is int:
        yield from (value + 1, value - 1, -value - 1, -value, 0, 1, 7)
    elif type(value) is str:
        yield from ("carry", "grow", "turnabout", "mirror", "side", "rim", "all", "not", "and", "or", "pole", "ratio", "power",
            "crossed", "other")
    elif type(value) is tuple:
        for at, part in enumerate(value):
            yield value[:at] + value[at + 1:]
            yield value[:at] + (part, part) + value[at + 1:]
            yield value[:at] + (0,) + value[at:]
            yield value[:at] + ((),) + value[at + 1:]
            yield value[:at] + (None,) + value[at + 1:]
            for spoilt in changed(part):
                yield value[:at] + (spoilt,) + value[at + 1:]
        for at, other in itertools.combinations(range(len(value)), 2):
            swapped = list(value)
            swapped[at], swapped[other] = swapped[other], swapped[at]
            yield tuple(swapped)
        yield value + (0,)
        yield value + (value,)
        yield ()
