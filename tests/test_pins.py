"""Promise [41]: parts of cells, mended arms, and which values fit tests at a part."""

import itertools
import unittest

from drawarms.arms import arm_map, is_arm, is_cell
from drawarms.errors import InvalidArm, InvalidIndex, InvalidPart, InvalidTests, InvalidValue
from drawarms.maps import back, led_place
from drawarms.pins import faults, mended, misfits, part_of, values_that_fit
from drawarms.readback import fits
from drawarms.rounds import is_round, value_at
from tests.support import ANYTHING, BIG, FAR, LINES, PLACES, RING, STUBBORN, WRONG_CELLS, WRONG_LINES, WRONG_POWERS, WRONG_RATIOS
from tests.support import ArgumentCase, Samples, indexes_of_wrong
from tests.test_pens import FIVE
from tests.test_readback import NINE, WRONG_TESTS

ZERO, ONE, TWO, MINUS, TURN = (0, 0, 1), (1, 0, 1), (2, 0, 1), (-1, 0, 1), (0, 1, 1)
PARTS = {"carry": ("shift",), "grow": ("pole", "ratio"), "turnabout": ("pole", "power"), "mirror": ("line",)}
CARRY, GROW, DOUBLE = ("carry", ONE), ("grow", ZERO, TWO, RING), ("turnabout", ZERO, (4, 1), RING)
LINE = ("mirror", (0, 1, 0, 0))
ALL = (CARRY, GROW, DOUBLE, LINE)
WRONG_PARTS = ANYTHING + [
    "shift ", "Shift", "poles", "POWER", "ring", "cell", "shift pole", b"pole", ("pole",), ["pole"], {"pole": 1}, "mirror", "pol",
]
PAIR = (GROW, CARRY)
SEEN = ((ONE, (5, 0, 1)), (ZERO, ONE))


def at_part(cell, part):
    return PARTS[cell[0]].index(part) + 1


def with_value(arm, index, part, value):
    cell, at = arm[index], at_part(arm[index], part)
    return arm[:index] + (cell[:at] + (value,) + cell[at + 1:],) + arm[index + 1:]


def all_parts(arm):
    return [(index, part) for index, cell in enumerate(arm) for part in PARTS[cell[0]]]


def has_value(told, value):
    """Whether a value is among those that are told."""
    if told[0] == "any":
        return True
    if told[0] == "on":
        return value_at(told[1], value) == 0
    return value_at(value, told[1]) == 0 if told[0] == "through" else value in told[1]


def some_values(samples, cell, part):
    """Values that may stand at a part."""
    values = list(PLACES[1:8]) + [samples.ratio(2) for _ in range(6)]
    if part == "line":
        values = LINES[:6] + [circle for circle in [samples.circle(2) for _ in range(25)] if circle[0] == 0]
    elif part == "power":
        values = [(n, m) for n in (-4, -3, -2, -1, 1, 2, 3, 4, 9) for m in (1, 2, 5)]
    return [value for value in values if is_cell(with_value((cell,), 0, part, value)[0])]


def bits_of(arm, samples, many):
    """Tests that an arm fits, some of them where it comes to poles and the far place."""
    places = [samples.place(2) for _ in range(many)]
    if samples.whole() > 4:
        cell = samples.choice(arm)
        ahead = arm_map(arm[:arm.index(cell)])
        pole = cell[1] if len(cell) == 4 else FAR
        places.append(next(place for place in list(PLACES) + [led_back(ahead, pole)] if led_place(ahead, place) == pole))
    return tuple((place, led_place(arm_map(arm), place)) for place in places)


def led_back(chart, place):
    return led_place(back(chart), place)


class Parts(ArgumentCase):
    def test_told_ones(self):
        for index, part, expected in [(0, "shift", ONE), (1, "pole", ZERO), (1, "ratio", TWO), (2, "pole", ZERO),
            (2, "power", (4, 1)),
                                      (3, "line", (0, 1, 0, 0))]:
            self.same_by_name(part_of, {"arm": ALL, "index": index, "part": part}, expected)
        for index, part, value, cell in [
            (0, "shift", (3, 4, 5), ("carry", (3, 4, 5))), (1, "pole", TURN, ("grow", TURN, TWO, RING)),
            (1, "ratio", TURN, ("grow", ZERO, TURN, RING)),
            (2, "pole", (BIG, 1, 3), ("turnabout", (BIG, 1, 3), (4, 1), RING)),
            (2, "power", (-1, 7), ("turnabout", ZERO, (-1, 7), RING)),
            (3, "line", (0, 3, 4, -5), ("mirror", (0, 3, 4, -5))), (3, "line", (0, 1, 0, 0), LINE),
        ]:
            expected = ALL[:index] + (cell,) + ALL[index + 1:]
            self.same_by_name(mended, {"arm": ALL, "index": index, "part": part, "value": value}, expected)

    def test_samples(self):
        samples = Samples(240)
        for _ in range(60):
            arm = samples.arm()
            for index, part in all_parts(arm):
                self.assertIs(part_of(arm, index, part), arm[index][at_part(arm[index], part)])
                self.assertEqual(mended(arm, index, part, part_of(arm, index, part)), arm)
                for value in some_values(samples, arm[index], part)[:3]:
                    made = mended(arm=arm, index=index, part=part, value=value)
                    self.assertEqual(made, with_value(arm, index, part, value))
                    self.assertTrue(is_arm(made))
                    self.assertEqual(part_of(made, index, part), value)

    def test_misfits(self):
        for arm, tests, expected in [(PAIR, SEEN, (0,)), (PAIR, (), ()), ((), ((ONE, ONE), (FAR, FAR), (ONE, TWO)), (2,)),
                                     (PAIR, SEEN[:1] * 3 + SEEN[1:] + SEEN[:1] * 4, (0, 1, 2, 4, 5, 6, 7))]:
            self.same_by_name(misfits, {"arm": arm, "tests": tests}, expected)


class Told(ArgumentCase):
    def check(self, cell, part, tests, expected):
        self.same_by_name(values_that_fit, {"arm": (cell,), "index": 0, "part": part, "tests": tests}, expected)

    def test_of_carry(self):
        for tests, expected in [
            ((), ("any",)), (((FAR, FAR),), ("any",)), (((ZERO, ONE),), ("values", (ONE,))), (((ZERO, ZERO),), ("values", ())),
            (((ZERO, FAR),), ("values", ())), (((FAR, ZERO),), ("values", ())),
            (((ZERO, ONE), (ONE, TWO), (FAR, FAR)), ("values", (ONE,))),
            (((ZERO, ONE), (ONE, (3, 0, 1))), ("values", ())), ((((1, 1, 2), (BIG, 0, 3)),), ("values", ((2 * BIG - 3, -3, 6),))),
        ]:
            self.check(CARRY, "shift", tests, expected)

    def test_of_grow(self):
        for tests, expected in [
            ((), ("any",)), (((FAR, FAR),), ("any",)), (((FAR, ZERO),), ("values", ())), (((ZERO, FAR),), ("values", ())),
            (((ONE, (5, 0, 1)),), ("values", ((-3, 0, 1),))), (((ONE, ONE),), ("values", (ONE,))),
            (((ONE, ONE), (TWO, TWO)), ("values", ())),
            (((ONE, (5, 0, 1)), ((-3, 0, 1), (-3, 0, 1))), ("values", ((-3, 0, 1),))),
        ]:
            self.check(GROW, "pole", tests, expected)
        for tests, expected in [
            ((), ("any",)), (((FAR, FAR),), ("any",)), (((FAR, ONE),), ("values", ())), (((ONE, FAR),), ("values", ())),
            (((ZERO, ZERO),), ("any",)), (((ZERO, ONE),), ("values", ())), (((ONE, ZERO),), ("values", ())),
            (((ONE, ONE),), ("values", ())),
            (((ONE, TURN),), ("values", (TURN,))), (((ZERO, ZERO), (TWO, TURN), (FAR, FAR)), ("values", ((0, 1, 2),))),
            (((ONE, TURN), (TURN, ONE)), ("values", ())),
        ]:
            self.check(GROW, "ratio", tests, expected)

    def test_of_turnabout_powers(self):
        for tests, expected in [
            ((), ("any",)), (((ZERO, FAR),), ("any",)), (((FAR, ZERO),), ("any",)), (((FAR, FAR),), ("values", ())),
            (((FAR, ONE),), ("values", ())),
            (((ONE, FAR),), ("values", ())), (((ZERO, ONE),), ("values", ())), (((ONE, ZERO),), ("values", ())),
            (((ZERO, ZERO),), ("values", ())),
            (((ONE, TWO),), ("values", ((2, 1),))), (((ONE, (-2, 0, 3)),), ("values", ((-2, 3),))),
            (((ONE, TURN),), ("values", ())),
            ((((1, 1, 1), (3, 3, 1)), (ZERO, FAR)), ("values", ((6, 1),))), (((ONE, TWO), (TWO, TWO)), ("values", ())),
            (((ONE, ONE),), ("values", ((1, 1),))),
        ]:
            self.check(DOUBLE, "power", tests, expected)

    def test_of_turnabout_poles(self):
        below = ("turnabout", ZERO, (-1, 1), RING)
        uneven = ("turnabout", ZERO, (3, 1), RING)
        circle = ("on", (1, -10, 0, 21))
        five = ((5, 0, 1), (5, 0, 1))
        for cell, tests, expected in [
            (DOUBLE, (), ("any",)), (DOUBLE, ((FAR, ONE),), ("values", (ONE,))), (DOUBLE, ((ONE, FAR),), ("values", (ONE,))),
            (DOUBLE, ((FAR, FAR),), ("values", ())), (DOUBLE, (five,), circle), (DOUBLE, (five,) * 8, circle),
            (below, (five,), ("values", ())),
            (uneven, ((ZERO, ZERO),), ("on", (1, 0, 0, -3))), (DOUBLE, ((ZERO, (3, 0, 1)),), ("values", ((-1, 0, 1), (4, 0, 1)))),
            (DOUBLE, ((ZERO, TWO),), ("values", ())), (below, ((ZERO, TWO),), ("values", (ONE,))),
            (below, ((ZERO, ONE),), ("values", ())),
            (below, ((ZERO, (5, 0, 2)),), ("values", ((1, 0, 2), TWO))),
            (DOUBLE, ((ZERO, (3, 0, 1)), (FAR, (4, 0, 1))), ("values", ((4, 0, 1),))),
            # Two circles share two whole places, two others, one, none; a circle and single places.
            (DOUBLE, ((ZERO, ZERO), ((2, 2, 1), (2, 2, 1))), ("values", ((0, 2, 1), TWO))),
            (DOUBLE, ((ZERO, ZERO), (TWO, TWO)), ("values", ())),
            (DOUBLE, ((ZERO, ZERO), ((4, 0, 1), (4, 0, 1))), ("values", (TWO,))), (DOUBLE, ((ZERO, ZERO), five), ("values", ())),
            (DOUBLE, ((MINUS, MINUS), (ZERO, (3, 0, 1))), ("values", ())),
            (DOUBLE, (((1, 0, 1), ONE), (ZERO, (3, 0, 1))), ("values", (MINUS,))),
            (DOUBLE, ((TWO, TWO), (ZERO, (3, 0, 1))), ("values", ((4, 0, 1),))),
            (uneven, ((ZERO, ZERO), (ONE, FAR)), ("values", ())),
            (uneven, ((ZERO, ZERO),) * 3 + ((MINUS, (-2, 0, 1)),), ("values", ())),
        ]:
            self.check(cell, "pole", tests, expected)

    def test_of_lines(self):
        through = ("through", (1, 1, 1))
        for tests, expected in [
            ((), ("any",)), (((FAR, FAR),), ("any",)), (((FAR, ONE),), ("values", ())), (((ONE, FAR),), ("values", ())),
            ((((1, 1, 1), (1, 1, 1)),), through), ((((1, 1, 1), (1, 1, 1)), (FAR, FAR)) * 2, through),
            (((ZERO, TWO),), ("values", ((0, 1, 0, -1),))),
            (((ZERO, ZERO), (ONE, ONE)), ("values", ((0, 0, 1, 0),))), (((ZERO, ZERO), (ONE, ONE), (TURN, TURN)), ("values", ())),
            (((ZERO, ZERO), (ONE, TURN)), ("values", ((0, 1, -1, 0),))), (((ONE, ONE), (ZERO, TURN)), ("values", ())),
            (((ZERO, TWO), (ONE, ONE)), ("values", ((0, 1, 0, -1),))), (((ZERO, TWO), (TWO, ZERO)), ("values", ((0, 1, 0, -1),))),
            (((ZERO, ZERO), (TWO, TWO), ((3, 1, 1), (3, -1, 1))), ("values", ((0, 0, 1, 0),))),
        ]:
            self.check(LINE, "line", tests, expected)

    def test_what_goes_to_poles_and_the_far_place_on_the_way(self):
        arm = (DOUBLE, CARRY, ("turnabout", ONE, (2, 1), RING))
        # 0 goes to the far place, this stays behind the `carry`, and the last cell leads it to 1.
        for index, part, tests, expected in [
            (1, "shift", ((ZERO, ONE),), ("any",)), (1, "shift", ((ZERO, ZERO),), ("values", ())),
            (1, "shift", ((FAR, FAR),), ("values", (ONE,))),
            (0, "power", ((ZERO, ONE),), ("any",)), (0, "power", ((FAR, FAR),), ("any",)),
            (0, "power", ((FAR, ZERO),), ("values", ())), (0, "pole", ((ZERO, ONE),), ("values", (ZERO,))),
            (2, "pole", ((ZERO, ONE),), ("values", (ONE,))), (2, "power", ((ZERO, ONE), (FAR, FAR)), ("any",)),
            (2, "power", ((ZERO, TWO),), ("values", ())),
        ]:
            self.same_by_name(values_that_fit, {"arm": arm, "index": index, "part": part, "tests": tests}, expected)
        expected = ((0, "pole"), (0, "power"), (1, "shift"), (2, "pole"), (2, "power"))
        self.same_by_name(faults, {"arm": arm, "tests": ((ZERO, ONE), (FAR, FAR))}, expected)

    def test_faults(self):
        for arm, tests, expected in [
            (PAIR, SEEN[:1], ((0, "pole"), (0, "ratio"), (1, "shift"))), (PAIR, SEEN, ((0, "ratio"),)), ((), SEEN, ()),
            ((), (), ()),
            (ALL, (), ((0, "shift"), (1, "pole"), (1, "ratio"), (2, "pole"), (2, "power"), (3, "line"))),
            # A circle without whole places is one, too.
            ((("turnabout", ZERO, (3, 1), RING),), ((ZERO, ZERO),), ((0, "pole"),)), ((LINE,), ((ONE, ONE),), ((0, "line"),)),
        ]:
            self.same_by_name(faults, {"arm": arm, "tests": tests}, expected)


class ByTheWords(ArgumentCase):
    def check_told(self, arm, index, part, tests, told, samples):
        """Each value that is told fits; each other one of a list does not."""
        self.assertEqual(told[0] in ("any",), len(told) == 1)
        values = some_values(samples, arm[index], part) + [arm[index][at_part(arm[index], part)]]
        if told[0] == "values":
            self.assertEqual(told[1], tuple(sorted(set(told[1]))))
            values += told[1]
        if told[0] == "on":
            self.assertTrue(is_round(told[1]) and told[1][0] > 0)
        for value in values:
            made = mended(arm, index, part, value)
            self.assertEqual(has_value(told, value), fits(arm_map(made), tests), (arm, index, part, tests, value))
            self.assertEqual(has_value(told, value), misfits(made, tests) == ())

    def test_samples(self):
        samples = Samples(241)
        found = []
        for _ in range(100):
            arm = samples.arm()
            if not arm:
                continue
            tests = bits_of(arm, samples, samples.choice((0, 1, 1, 2, 3)))
            index, part = samples.choice(all_parts(arm))
            wrong = with_value(arm, index, part, samples.choice(some_values(samples, arm[index], part)))
            for one in (arm, wrong):
                for where, what in all_parts(one):
                    told = values_that_fit(one, where, what, tests)
                    self.same_by_name(values_that_fit, {"arm": one, "index": where, "part": what, "tests": tests}, told)
                    self.check_told(one, where, what, tests, told, samples)
                    found.append(told[0] if told[0] != "values" else len(told[1]))
                expected = [pair for pair in all_parts(one) if values_that_fit(one, *pair, tests) != ("values", ())]
                self.same_by_name(faults, {"arm": one, "tests": tests}, tuple(sorted(expected)))
            # What was put wrong in one part is among the faults, and its right value among those that fit.
            self.assertIn((index, part), faults(wrong, tests))
            self.assertTrue(has_value(values_that_fit(wrong, index, part, tests), part_of(arm, index, part)))
        self.assertLessEqual({"any", 0, 1, 2}, set(found))

    def test_small_cells(self):
        samples = Samples(242)
        places = [FAR, ZERO, ONE, TWO, MINUS, TURN, (1, 1, 1), (3, 0, 1), (4, 0, 1)]
        tests, found = [(place, goal) for place in places for goal in places], set()
        for cell in [CARRY, GROW, DOUBLE, LINE, ("turnabout", ONE, (-1, 1), RING), ("grow", TURN, MINUS, RING),
            ("turnabout", ZERO, (2, 1), RING)]:
            for part in PARTS[cell[0]]:
                for one in tests:
                    told = values_that_fit((cell,), 0, part, (one,))
                    self.check_told((cell,), 0, part, (one,), told, samples)
                    found.add(told[0] if told[0] != "values" else len(told[1]))
                for pair in itertools.islice(itertools.combinations(tests, 2), 0, None, 37):
                    self.check_told((cell,), 0, part, pair, values_that_fit((cell,), 0, part, pair), samples)
        self.assertEqual(found, {"any", "on", "through", 0, 1, 2})

    def test_great_numbers(self):
        arm = (("turnabout", (BIG, 1, 3), (-BIG, 7), RING), ("grow", (1, BIG, 2), (BIG, -1, 5), RING),
            ("carry", (BIG, BIG + 1, 1)),
               ("mirror", (0, BIG, 1, BIG)))
        tests = tuple((place, led_place(arm_map(arm), place)) for place in PLACES[:5])
        for index, part in all_parts(arm):
            self.assertEqual(values_that_fit(arm, index, part, tests), ("values", (part_of(arm, index, part),)))
        self.assertEqual(faults(arm, tests), tuple(sorted(all_parts(arm))))


class WrongArguments(ArgumentCase):
    def calls(self):
        return [(part_of, {}), (mended, {"value": (5, 0, 1)}), (values_that_fit, {"tests": ()})]

    def test_arms(self):
        told = indexes_of_wrong(FIVE, WRONG_CELLS, 4)
        for function, more in self.calls():
            self.check_indexes(InvalidArm, function, {"arm": (CARRY,), "index": 0, "part": "shift", **more}, "arm", told)
        for function in (misfits, faults):
            self.check_indexes(InvalidArm, function, {"arm": (CARRY,), "tests": ()}, "arm", told)

    def test_indexes_and_parts(self):
        wrong = [value for value in ANYTHING if value.__class__ is not int] + [-1, 1, 4, BIG, -BIG, (0,), [0], "0", b"1"]
        for function, more in self.calls():
            last = {"value": (InvalidValue, []), "tests": (InvalidTests, [])}
            wrongs = {"arm": (InvalidArm, []), "index": (InvalidIndex, wrong),
                "part": (InvalidPart, WRONG_PARTS + ["pole", "ratio", "line"]),
                      **{name: last[name] for name in more}}
            self.check_all_given(function, {"arm": (CARRY,), "index": 0, "part": "shift", **more}, wrongs)
            for cell in ALL:
                for part in ("shift", "pole", "ratio", "power", "line"):
                    if part not in PARTS[cell[0]]:
                        passed = {"arm": ALL, "index": ALL.index(cell), "part": part, **more}
                        self.assertIs(self.raised(InvalidPart, function, **passed).given, part)
            self.assertEqual(self.raised(InvalidIndex, function,
                *{"arm": (), "index": 0, "part": "shift", **more}.values()).given, 0)

    def test_values(self):
        for index, part, wrong in [
            (0, "shift", WRONG_RATIOS + [ZERO]), (1, "pole", WRONG_RATIOS), (1, "ratio", WRONG_RATIOS + [ZERO, ONE]),
            (2, "pole", WRONG_RATIOS),
            (2, "power", WRONG_POWERS), (3, "line", WRONG_LINES),
        ]:
            self.check_all_given(mended, {"arm": ALL, "index": index, "part": part, "value": part_of(ALL, index, part)},
                {"arm": (InvalidArm, []), "index": (InvalidIndex, []), "part": (InvalidPart, []), "value": (InvalidValue, wrong)})
        self.assertIs(self.raised(InvalidValue, mended, ALL, 0, "shift", STUBBORN).given, STUBBORN)

    def test_tests(self):
        told = indexes_of_wrong(NINE, WRONG_TESTS, 8)
        for function in (misfits, faults):
            self.check_indexes(InvalidTests, function, {"arm": ALL, "tests": ()}, "tests", told)
        self.check_indexes(InvalidTests, values_that_fit, {"arm": ALL, "index": 3, "part": "line", "tests": ()}, "tests", told)


if __name__ == "__main__":
    unittest.main()
