"""Promises [31], [32] and [33], and [2] for what is read back: tests, freedom, maps that fit, what is settled."""

import itertools
import unittest

from drawarms.errors import InvalidHand, InvalidMap, InvalidPlace, InvalidRound, InvalidTests, NoMapFits
from drawarms.maps import after, is_map, led_place, led_round, map_of, mirror_in
from drawarms.readback import bar, crossed, fits, fitting, freedom, hands, is_pinned, needed, settled, settled_round
from drawarms.rounds import round_through, value_at
from drawarms.triples import mirrored_through, plain_through
from tests.oracles import product
from tests.support import BIG, FAR, PLACES, ROUNDS, STAYS, WRONG_BOTH_HANDS, WRONG_MAPS, WRONG_ONE_HANDS, WRONG_PLACES, WRONG_ROUNDS
from tests.support import ANYTHING, ArgumentCase, Samples, Value, indexes_of_wrong, value_of

ZERO, ONE = (0, 0, 1), (1, 0, 1)
UNIT, FLAT = (1, 0, 0, -1), (0, 0, 1, 0)
THREE = ((ZERO, ONE), (ONE, (2, 0, 1)), (FAR, FAR))
FOURTH = ((0, 1, 1), (1, 1, 1))
FOUR = THREE + (FOURTH,)
# On one round, so that one plain and one mirrored map fit.
REAL = THREE + (((5, 0, 1), (6, 0, 1)), ((-1, 0, 2), (1, 0, 2)))
CROSSED = THREE + ((ONE, (3, 0, 1)),)
NOT_FITTED = FOUR[:3] + (((0, 1, 1), (7, 7, 3)),)
NINE = tuple(((at, 0, 1), (at + 1, 0, 1)) for at in range(9))
TEST = (ZERO, ONE)
WRONG_TESTS = ANYTHING + [
    (ZERO,), (ZERO, ONE, FAR), [ZERO, ONE], (TEST,), (TEST, TEST), "ab", b"ab", (0, 1), ((0, 0), (1, 1)),
] + [(wrong, ONE) for wrong in WRONG_PLACES] + [(ZERO, wrong) for wrong in WRONG_PLACES]


def rank_by_words(tests, hand):
    """The rank of the equations of [32], over the complex numbers."""
    rows = []
    for (p, s, r), (w, x, v) in tests:
        z = value_of((p, -s if hand else s))
        under, goal, goal_under = Value(r), value_of((w, x)), Value(v)
        rows.append([goal_under * z, goal_under * under, Value(0) - goal * z, Value(0) - goal * under])
    many = 0
    for at in range(4):
        first = next((row for row in rows[many:] if row[at] != Value(0)), None)
        if first is None:
            continue
        rows = [row for row in rows[:many]] + [first] + [row for row in rows[many:] if row is not first]
        for index in range(many + 1, len(rows)):
            factor = rows[index][at] / first[at]
            rows[index] = [number - factor * beside for number, beside in zip(rows[index], first)]
        many += 1
    return many


def unlike(tests):
    return tuple(dict.fromkeys(tests))


def is_crossed(tests):
    return any((a == c) != (b == d) for (a, b), (c, d) in itertools.combinations(tests, 2))


def maps_by_words(tests):
    """For each hand a map that fits, or None."""
    if is_crossed(tests):
        return [None, None]
    told = list(unlike(tests))
    for place in ((3, 7, 11), (-9, 5, 4), (1, 13, 6)):
        if len(told) < 3:
            told.append((place, place[::-1][:2] + (17,)))
    sources, goals = zip(*told[:3])
    charts = [plain_through(sources, goals), mirrored_through(sources, goals)]
    return [chart if all(led_place(chart, a) == b for a, b in tests) else None for chart in charts]


def sample_tests(samples, many):
    """Tests of a map, or with some that don't fit, some equal, some on one round, some crossed."""
    chart = samples.chart(3)
    size = samples.choice((2, 3, 6))
    places = [samples.place(size) for _ in range(many)]
    if samples.whole() > 3:
        places = [(place[0], 0, place[2]) if place == FAR else (place[0], 0, 1) for place in places]
    tests = [(place, led_place(chart, place)) for place in places]
    if tests and samples.whole() > 8:
        tests[samples.choice(range(len(tests)))] = (samples.place(2), samples.place(2))
    return tuple(tests)


class Fitting(ArgumentCase):
    def test_told_ones(self):
        slide = map_of(0, (1, 0), (1, 0), (0, 0), (1, 0))
        for chart, tests, expected in [
            (slide, FOUR, True), (slide, (), True), (slide, CROSSED, False), (STAYS, ((FAR, FAR),), True),
            (STAYS, THREE[:1], False),
            (map_of(1, (1, 0), (1, 0), (0, 0), (1, 0)), THREE, True), (map_of(1, (1, 0), (1, 0), (0, 0), (1, 0)), FOUR, False),
        ]:
            self.same_by_name(fits, {"chart": chart, "tests": tests}, expected)

    def test_by_the_words(self):
        samples = Samples(180)
        for _ in range(200):
            tests, chart = sample_tests(samples, samples.choice((0, 1, 3, 8))), samples.chart(3)
            self.assertEqual(fits(chart, tests), all(led_place(chart, place) == goal for place, goal in tests))

    def test_crossed(self):
        for tests, expected in [
            (CROSSED, (1, 3)), ((), None), (THREE[:1], None), (THREE, None), (THREE + THREE, None),
            (((ZERO, ONE), (ONE, ONE)), (0, 1)),
            (((ZERO, ONE), (ONE, FAR), (ONE, ZERO), (ZERO, ZERO)), (0, 3)), (((ZERO, FAR), (FAR, FAR), (FAR, ZERO)), (0, 1)),
            (THREE + ((FAR, ZERO), (ONE, ZERO)), (1, 4)), (THREE + ((FAR, ZERO), (ZERO, ZERO)), (0, 4)),
        ]:
            self.same_by_name(crossed, {"tests": tests}, expected)

    def test_freedom(self):
        for tests, hand, expected in [
            ((), 0, 4), ((), 1, 4), (THREE[:1], 1, 3), (THREE[:2], 0, 2), (THREE, 0, 1), (FOUR, 0, 1), (FOUR, 1, 0),
            (REAL, 0, 1), (REAL, 1, 1),
            (THREE + THREE, 1, 1), (CROSSED, 0, 0), (((ZERO, ONE), (ZERO, FAR)), 0, 2),
            (((ZERO, ONE), (ONE, ONE), (FAR, ONE)), 1, 2),
        ]:
            self.same_by_name(freedom, {"tests": tests, "hand": hand}, expected)

    def test_freedom_by_the_words(self):
        samples = Samples(181)
        for _ in range(250):
            tests = sample_tests(samples, samples.choice((0, 1, 2, 3, 4, 5, 8)))
            for hand, chart in enumerate(maps_by_words(tests)):
                expected = 4 - rank_by_words(tests, hand)
                self.same_by_name(freedom, {"tests": tests, "hand": hand}, expected)
                if not is_crossed(tests):
                    many = len(unlike(tests))
                    self.assertEqual(expected, 4 - many if many <= 3 else int(chart is not None))

    def test_hands_and_fitting(self):
        for tests, expected in [((), (0, 1)), (THREE, (0, 1)), (FOUR, (0,)), (REAL, (0, 1)), (CROSSED, ()),
            (NOT_FITTED, ()), (THREE * 2, (0, 1)),
                                (THREE + (((0, 1, 1), (1, -1, 1)),), (1,))]:
            self.same_by_name(hands, {"tests": tests}, expected)
        self.same_by_name(fitting, {"tests": THREE, "hand": 1}, (1, (1, 0), (1, 0), (0, 0), (1, 0)))
        self.same_by_name(fitting, {"tests": FOUR, "hand": None}, (0, (1, 0), (1, 0), (0, 0), (1, 0)))
        self.same_by_name(fitting, {"tests": FOUR, "hand": 1}, None)
        self.same_by_name(fitting, {"tests": CROSSED, "hand": None}, None)

    def test_fitting_maps_fit(self):
        samples = Samples(182)
        found = []
        for _ in range(300):
            tests = sample_tests(samples, samples.choice((0, 1, 2, 3, 4, 6, 8)))
            charts = maps_by_words(tests)
            self.same_by_name(hands, {"tests": tests}, tuple(hand for hand in (0, 1) if charts[hand] is not None))
            for hand in (0, 1, None):
                asked = [chart for chart in (charts if hand is None else [charts[hand]]) if chart is not None]
                for made in (fitting(tests, hand), fitting(tests=tests, hand=hand)):
                    self.assertEqual(made is not None, bool(asked))
                    if made is not None:
                        self.assertTrue(is_map(made) and fits(made, tests))
                        self.assertEqual(made[0], asked[0][0])
            found.append(hands(tests))
        self.assertGreater(min(found.count(told) for told in ((), (0,), (1,), (0, 1))), 10)

    def test_pinned(self):
        for tests, hand, expected in [
            (THREE, 0, True), (THREE, 1, True), (THREE, None, False), (FOUR, None, True), (FOUR, 0, True),
            (FOUR, 1, False), (REAL, None, False),
            (THREE[:2], 0, False), ((), None, False), (CROSSED, 0, False), (CROSSED, None, False),
            (NOT_FITTED, None, False), (REAL, 1, True),
            (THREE[:2] * 3, 1, False),
        ]:
            self.same_by_name(is_pinned, {"tests": tests, "hand": hand}, expected)

    def test_bars(self):
        for tests, hand, expected in [
            (FOUR, 1, ("other", 0, 1, 2, 3)), (FOUR, 0, None), (CROSSED, 0, ("crossed", 1, 3)),
            (NOT_FITTED, 0, ("other", 0, 1, 2, 3)), ((), 1, None),
            (THREE[:1] * 3 + FOUR, 1, ("other", 0, 4, 5, 6)), (REAL + (FOURTH,), 1, ("other", 0, 1, 2, 5)),
            (REAL + (FOURTH,), 0, None),
            (NOT_FITTED + (((0, 1, 1), ZERO),), 0, ("crossed", 3, 4)), (THREE[:2] * 4, 0, None),
        ]:
            self.same_by_name(bar, {"tests": tests, "hand": hand}, expected)
        samples = Samples(183)
        for _ in range(200):
            tests = sample_tests(samples, samples.choice((2, 4, 6, 8)))
            for hand in (0, 1):
                told = bar(tests, hand)
                self.assertEqual(told is None, maps_by_words(tests)[hand] is not None)
                if told is not None and told[0] == "crossed":
                    self.assertEqual(told[1:], crossed(tests))
                elif told is not None:
                    self.assertIsNone(crossed(tests))
                    _, i, j, k, l = told
                    self.assertEqual([tests[i], tests[j], tests[k]], list(unlike(tests)[:3]))
                    made = (plain_through, mirrored_through)[hand](*zip(tests[i], tests[j], tests[k]))
                    self.assertTrue(fits(made, tests[:l]) and not fits(made, (tests[l],)))


def other_maps(tests, hand):
    """Several maps that fit, of the hands asked about."""
    if is_crossed(tests):
        return []
    charts = []
    for one in ((0, 1) if hand is None else (hand,)):
        for shift in range(3):
            told = list(unlike(tests))
            for at, place in enumerate(((3, 7, 11), (-9, 5, 4), (1, 13, 6))):
                if len(told) < 3:
                    told.append((place, (2 + at, 17 + shift * (at + 1), 19)))
            sources, goals = zip(*told[:3])
            made = (plain_through, mirrored_through)[one](sources, goals)
            if fits(made, tests):
                charts.append(made)
    return charts


class Settled(ArgumentCase):
    def test_told_places(self):
        for tests, hand, place, expected in [
            (THREE, None, (5, 0, 1), (6, 0, 1)), (THREE, None, (0, 1, 1), None), (THREE, 0, (0, 1, 1), (1, 1, 1)),
            (FOUR, None, (0, 2, 1), (1, 2, 1)),
            (THREE[:2], 0, FAR, None), (THREE, 1, (0, 1, 1), (1, -1, 1)), (THREE[:2], 0, ZERO, ONE),
            (THREE[:1], None, ZERO, ONE), ((), 0, ZERO, None),
            (THREE[:2] * 2, 1, (5, 0, 1), None), (REAL, None, (BIG, 0, 7), (BIG + 7, 0, 7)), (REAL, None, (BIG, 1, 7), None),
            (REAL, 1, (BIG, 1, 7), (BIG + 7, -1, 7)), (THREE, None, FAR, FAR),
        ]:
            self.same_by_name(settled, {"tests": tests, "hand": hand, "place": place}, expected)

    def test_told_rounds(self):
        for tests, hand, circle, expected in [
            (THREE, None, UNIT, (1, -2, 0, 0)), (THREE, None, (1, 0, -2, 0), None), (THREE, 0, (1, 0, -2, 0), (1, -2, -2, 1)),
            (THREE, None, FLAT, FLAT), (THREE[:2], None, FLAT, None), (THREE[:2], 0, UNIT, None),
            (FOUR, None, (1, 0, -2, 0), (1, -2, -2, 1)),
            ((), None, UNIT, None), (REAL, None, (0, 1, 0, 0), (0, 1, 0, -1)), (REAL, None, (0, 1, 1, 0), None),
            (REAL, 1, (0, 1, 1, 0), (0, 1, -1, -1)),
        ]:
            self.same_by_name(settled_round, {"tests": tests, "hand": hand, "circle": circle}, expected)

    def test_settled_is_the_same_for_all_maps_that_fit(self):
        samples = Samples(184)
        found = []
        for _ in range(150):
            tests = sample_tests(samples, samples.choice((0, 1, 2, 3, 4, 6)))
            for hand in (0, 1, None):
                charts = other_maps(tests, hand)
                if not charts:
                    continue
                many = len(unlike(tests))
                places = PLACES[:6] + [test[0] for test in tests] + [samples.place(3)]
                for place in places:
                    goals = {led_place(chart, place) for chart in charts}
                    self.same_by_name(settled, {"tests": tests, "hand": hand, "place": place},
                        goals.pop() if len(goals) == 1 else None)
                    found.append(settled(tests, hand, place) is None)
                for circle in [samples.circle(2), samples.choice(ROUNDS)]:
                    goals = {led_round(chart, circle) for chart in charts}
                    expected = goals.pop() if many >= 3 and len(goals) == 1 else None
                    self.same_by_name(settled_round, {"tests": tests, "hand": hand, "circle": circle}, expected)
        self.assertGreater(min(found.count(True), found.count(False)), 300)

    def test_the_plain_and_the_mirrored_map_differ_by_a_mirror(self):
        samples = Samples(185)
        for _ in range(60):
            tests = tuple(zip(samples.places(3, 4), samples.places(3, 4)))
            plain, mirrored = fitting(tests, 0), fitting(tests, 1)
            circle = round_through(*[test[0] for test in tests])
            self.assertEqual(after(plain, mirror_in(circle)), mirrored)
            for place in PLACES:
                self.assertEqual(settled(tests, None, place) is not None, value_at(circle, place) == 0)
            for other in ROUNDS[:12]:
                self.assertEqual(settled_round(tests, None, other) is not None, other == circle or product(other, circle) == 0)

    def test_needed(self):
        for tests, hand, expected in [
            (FOUR, 0, (0, 1, 2)), (FOUR, None, (0, 1, 2, 3)), (THREE, 0, (0, 1, 2)), (THREE, None, (0, 1, 2)),
            ((), 0, ()), (THREE[:1] * 3, None, (0,)),
            (THREE[:2] * 2, 1, (0, 1)), (REAL, None, (0, 1, 2)), (REAL + (FOURTH,), None, (0, 1, 2, 5)),
            ((FOURTH,) + REAL, None, (0, 1, 2, 3)),
            (REAL + (FOURTH,), 0, (0, 1, 2)), (REAL[3:] + (FOURTH,) + THREE, None, (0, 1, 2, 3)),
        ]:
            self.same_by_name(needed, {"tests": tests, "hand": hand}, expected)

    def test_needed_tests_settle_the_others(self):
        samples = Samples(186)
        for _ in range(150):
            tests = sample_tests(samples, samples.choice((1, 3, 5, 8)))
            for hand in (0, 1, None):
                if fitting(tests, hand) is None:
                    self.raised(NoMapFits, needed, tests, hand)
                    continue
                left = list(range(len(tests)))
                for at in reversed(range(len(tests))):
                    others = tuple(tests[index] for index in left if index != at)
                    if settled(others, hand, tests[at][0]) is not None:
                        left.remove(at)
                self.same_by_name(needed, {"tests": tests, "hand": hand}, tuple(left))
                kept = tuple(tests[at] for at in left)
                for place, goal in tests:
                    self.assertEqual(settled(kept, hand, place), goal)

    def test_eight_tests(self):
        samples = Samples(187)
        for _ in range(10):
            chart = samples.chart(BIG)
            places = samples.places(8, 9)
            tests = tuple((place, led_place(chart, place)) for place in places)
            self.assertEqual((fitting(tests, None), hands(tests), is_pinned(tests, None)), (chart, (chart[0],), True))
            self.assertEqual(settled(tests, None, (BIG, 1, 3)), led_place(chart, (BIG, 1, 3)))
            self.assertEqual((freedom(tests, chart[0]), freedom(tests, 1 - chart[0])), (1, 0))
            self.assertEqual(needed(tests, chart[0]), (0, 1, 2))

    def test_no_map_fits(self):
        for tests, hand in [(CROSSED, 0), (CROSSED, 1), (CROSSED, None), (FOUR, 1), (NOT_FITTED, None), (NOT_FITTED, 0)]:
            for place in (ZERO, FAR, (5, 5, 1)):
                self.raised(NoMapFits, settled, tests, hand, place)
                self.raised(NoMapFits, settled, tests=tests, hand=hand, place=place)
            self.raised(NoMapFits, settled_round, tests, hand, UNIT)
            self.raised(NoMapFits, settled_round, tests=tests, hand=hand, circle=UNIT)
            self.raised(NoMapFits, needed, tests, hand)
            self.raised(NoMapFits, needed, tests=tests, hand=hand)
            self.assertIsNone(self.raised(InvalidPlace, settled, tests, hand, None).given)
            self.assertIsNone(self.raised(InvalidRound, settled_round, tests, hand, None).given)


class WrongArguments(ArgumentCase):
    def test_tests(self):
        told = indexes_of_wrong(NINE, WRONG_TESTS, 8)
        for function, more in [(crossed, {}), (hands, {}), (freedom, {"hand": 0}), (fitting, {"hand": None}), (bar, {"hand": 1}),
                               (settled, {"hand": 0, "place": FAR}), (settled_round, {"hand": 0, "circle": UNIT}),
                               (is_pinned, {"hand": 1}),
                               (needed, {"hand": 0})]:
            self.check_indexes(InvalidTests, function, {"tests": (), **more}, "tests", told)
        self.check_indexes(InvalidTests, fits, {"chart": STAYS, "tests": ()}, "tests", told)

    def test_others(self):
        tests = (InvalidTests, [])
        self.check_all_given(fits, {"chart": STAYS, "tests": THREE}, {"chart": (InvalidMap, WRONG_MAPS), "tests": tests})
        for function in (freedom, bar):
            for good in (THREE, CROSSED):
                self.check_all_given(function, {"tests": good, "hand": 0},
                    {"tests": tests, "hand": (InvalidHand, WRONG_ONE_HANDS)})
        hand = (InvalidHand, WRONG_BOTH_HANDS)
        for good in (THREE, CROSSED):
            for function in (fitting, is_pinned, needed):
                self.check_all_given(function, {"tests": good, "hand": 1}, {"tests": tests, "hand": hand})
            wrongs = {"tests": tests, "hand": hand, "place": (InvalidPlace, WRONG_PLACES)}
            self.check_all_given(settled, {"tests": good, "hand": 0, "place": FAR}, wrongs)
            wrongs = {"tests": tests, "hand": hand, "circle": (InvalidRound, WRONG_ROUNDS)}
            self.check_all_given(settled_round, {"tests": good, "hand": 0, "circle": UNIT}, wrongs)


if __name__ == "__main__":
    unittest.main()
