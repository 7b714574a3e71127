"""Promises [21] and [22]: rows that are led back, the lot of an arm's reach, what bars, and how reaches stand."""

import itertools
import unittest
from math import gcd

from drawarms.arms import arm_map, lets, pen_of
from drawarms.errors import InvalidArm, InvalidMap, InvalidPlace, InvalidRound, InvalidRow, NotALot, TooMany
from drawarms.inside import any_place, is_bounded, is_empty, is_open_somewhere, lies_inside
from drawarms.lots import Lot, both, disc_tree, either, holds, less, rest, ring_tree
from drawarms.maps import after, back, led_place, map_of
from drawarms.places import is_place
from drawarms.reach import first_bar, parting_reach, reach_lot, reaches_all, reaches_lot, reaches_nothing, reaches_round
from drawarms.reach import row_back, same_reach
from drawarms.rounds import is_round, round_of, side_of
from tests.lotsamples import ALL, EIGHT, NONE, rich_lots, tree_with
from tests.support import BIG, FAR, PLACES, RING, ROUNDS, SIDE, STAYS, WRONG_CELLS, WRONG_LOTS, WRONG_MAPS, WRONG_PLACES
from tests.support import WRONG_ROUNDS, WRONG_ROWS, ArgumentCase, Samples, Value, indexes_of_wrong, round_of_circle, value_of

CARRY, MIRROR = ("carry", (1, 0, 1)), ("mirror", (0, 1, -1, 0))
GROW = ("grow", (0, 0, 1), (2, 0, 1), ((1, 1), (4, 1)))
TURNABOUT = ("turnabout", (0, 0, 1), (4, 1), RING)
ARM = (TURNABOUT, CARRY, GROW)
NOTHING = (("grow", (0, 0, 1), (2, 0, 1), ((1, 1), (2, 1))), ("grow", (0, 0, 1), (2, 0, 1), ((1, 1), (2, 1))))
WRONG_ARMS = indexes_of_wrong((CARRY, GROW, MIRROR, TURNABOUT, CARRY), WRONG_CELLS, 4)
# Four cells whose reach has eight rounds.
FOUR = tuple(("grow", (3 * at, at, 1), (2, 1, 1), ((1, 10), (10 ** 6, 1))) for at in range(4))


def led_back_by_words(chart, row):
    """The row that a map leads back, by the words of [21], not reduced."""
    q, l, m, k = row
    a, b, c, d = [value_of(number) for number in chart[1:]]
    star = Value.conjugate
    slope = value_of((l, m))
    first = Value(q) * a * star(a) + Value((star(slope) * a * star(c)).real) + Value(k) * c * star(c)
    last = Value(q) * b * star(b) + Value((star(slope) * b * star(d)).real) + Value(k) * d * star(d)
    w = Value(2 * q) * a * star(b) + star(slope) * a * star(d) + slope * star(b) * c + Value(2 * k) * c * star(d)
    second, third = w.real, w.imaginary if chart[0] else -w.imaginary
    return tuple(int(number) for number in (first.real, second, third, last.real))


def reduced_row(numbers):
    return tuple(number // gcd(*numbers) for number in numbers)


def discriminant(row):
    return row[1] * row[1] + row[2] * row[2] - 4 * row[0] * row[3]


class RowsBack(ArgumentCase):
    def test_told_ones(self):
        slide, unit = map_of(0, (1, 0), (1, 0), (0, 0), (1, 0)), (1, 0, 0, -1)
        for chart, row, expected in [
            (STAYS, unit, unit), (slide, unit, (1, 2, 0, 0)), (slide, (-1, 0, 0, 1), (-1, -2, 0, 0)),
            (map_of(0, (2, 0), (0, 0), (0, 0), (1, 0)), (1, 0, 0, -4), unit),
            (map_of(0, (0, 0), (1, 0), (1, 0), (0, 0)), unit, (-1, 0, 0, 1)),
            (map_of(0, (0, 1), (0, 0), (0, 0), (1, 0)), (0, 1, 0, 0), (0, 0, -1, 0)),
            (map_of(1, (1, 0), (0, 0), (0, 0), (1, 0)), (0, 0, 1, 5), (0, 0, -1, 5)),
        ]:
            self.same_by_name(row_back, {"chart": chart, "row": row}, expected)

    def test_by_the_words(self):
        samples = Samples(90)
        for size in (3, 12, BIG):
            for _ in range(150):
                chart, row = samples.chart(size), samples.row(size)
                told = led_back_by_words(chart, row)
                self.same_by_name(row_back, {"chart": chart, "row": row}, reduced_row(told))
                a, b, c, d = [value_of(number) for number in chart[1:]]
                self.assertEqual(discriminant(told), discriminant(row) * (a * d - b * c).norm())

    def test_the_sign_of_the_place_that_is_led_to(self):
        samples = Samples(91)
        for _ in range(150):
            chart, row = samples.chart(), samples.row()
            made = row_back(chart, row)
            for place in PLACES + [led_place(back(chart), FAR)]:
                self.assertEqual(side_of(made, place), side_of(row, led_place(chart, place)))

    def test_one_after_another(self):
        samples = Samples(92)
        for _ in range(100):
            chart, other, row = samples.chart(), samples.chart(), samples.row()
            self.assertEqual(row_back(after(chart, other), row), row_back(other, row_back(chart, row)))
            self.assertEqual(row_back(back(chart), row_back(chart, row)), row)

    def test_wrong_arguments(self):
        wrongs = {"chart": (InvalidMap, WRONG_MAPS), "row": (InvalidRow, WRONG_ROWS)}
        self.check_all_given(row_back, {"chart": STAYS, "row": (-1, 0, 0, 1)}, wrongs)


class Reaches(ArgumentCase):
    def test_told_rounds(self):
        for arm, expected in [
            ((), ()), ((CARRY, MIRROR, CARRY, MIRROR), ()), ((TURNABOUT,), ((1, 0, 0, -9), (1, 0, 0, -1))),
            (ARM, ((0, 1, 0, 2), (1, 0, 0, -9), (1, 0, 0, -1), (3, -8, 0, -16))), ((CARRY, GROW), ((1, 2, 0, -3), (1, 2, 0, 0))),
        ]:
            for lot in (reach_lot(arm), reach_lot(arm=arm)):
                self.assertIs(lot.__class__, Lot)
                self.assertEqual(lot.rounds, expected)
        self.assertEqual(reach_lot(()).tree, ALL)
        self.assertEqual(reach_lot((MIRROR, CARRY)).tree, ALL)
        self.assertFalse(reach_lot(ARM) == reach_lot(ARM))

    def test_the_rounds_by_the_words(self):
        samples = Samples(93)
        for _ in range(100):
            arm = samples.arm()
            rounds = set()
            for at, cell in enumerate(arm):
                for n, m in cell[3] if len(cell) == 4 else ():
                    p, s, r = cell[1]
                    row = reduced_row((m * r * r, -2 * m * p * r, -2 * m * s * r, m * (p * p + s * s) - n * r * r))
                    rounds.add(round_of(row_back(arm_map(arm[:at]), row)))
            self.assertEqual(reach_lot(arm).rounds, tuple(sorted(rounds)))

    def test_the_lot_holds_just_what_the_arm_lets(self):
        samples = Samples(94)
        held = 0
        for _ in range(400):
            arm = samples.arm()
            lot = reach_lot(arm)
            for place in [samples.ratio(4) for _ in range(8)] + [cell[1] for cell in arm if len(cell) == 4]:
                self.assertIs(holds(lot, place), lets(arm, place))
                held += holds(lot, place)
            self.assertIs(holds(lot, FAR), all(len(cell) == 2 for cell in arm))
            self.assertEqual(lot.tree == ALL, all(len(cell) == 2 for cell in arm))
        self.assertGreater(held, 500)

    def test_great_numbers(self):
        arm = (("turnabout", (BIG, 1, 2), (-BIG, 7), ((1, BIG), (BIG, 1))), ("carry", (1, BIG, 3)),
               ("grow", (BIG, BIG, 5), (3, BIG, 4), ((1, BIG), (BIG * BIG, 1))))
        lot = reach_lot(arm)
        for place in PLACES[1:] + [(BIG + 1, 1, 2), (BIG + 1, 2, 2), (BIG, 3, 2)]:
            common = gcd(*place)
            place = tuple(number // common for number in place)
            self.assertIs(holds(lot, place), lets(arm, place))
        self.assertTrue(all(is_round(circle) for circle in lot.rounds))
        place = any_place(lot)
        self.assertEqual(place is None, not is_open_somewhere(lot))
        self.assertTrue(place is None or lets(arm, place))

    def test_reaches_with_rings_are_bounded(self):
        samples = Samples(95)
        for _ in range(100):
            arm = samples.arm()
            self.assertIs(is_bounded(reach_lot(arm)), any(len(cell) == 4 for cell in arm))

    def test_first_bar(self):
        for place, expected in [((4, 0, 1), 0), ((2, 0, 1), 2), ((0, 3, 1), None), (FAR, 0), ((0, 0, 1), 0)]:
            self.same_by_name(first_bar, {"arm": ARM, "place": place}, expected)
        self.same_by_name(first_bar, {"arm": (), "place": FAR}, None)
        self.same_by_name(first_bar, {"arm": (CARRY,), "place": FAR}, 0)
        self.same_by_name(first_bar, {"arm": (CARRY, GROW), "place": (-1, 0, 1)}, 1)
        samples = Samples(96)
        for _ in range(300):
            arm, place = samples.arm(), samples.place(4)
            bars = [at for at in range(len(arm)) if not lets(arm[:at + 1], place)]
            self.same_by_name(first_bar, {"arm": arm, "place": place}, bars[0] if bars else None)
            if place != FAR:
                self.assertEqual(first_bar(arm, place) is None, pen_of(arm, place) is not None)

    def test_reaches_nothing(self):
        touching = (GROW, ("grow", (0, 0, 1), (2, 0, 1), ((16, 1), (17, 1))))
        for arm, expected in [((), False), ((MIRROR,), False), (ARM, False), (NOTHING, True), (NOTHING[:1], False),
            (touching, False)]:
            self.same_by_name(reaches_nothing, {"arm": arm}, expected)
        # Here the two rings keep one place together, and there none.
        one = (("grow", (0, 0, 1), (2, 0, 1), ((1, 1), (4, 1))), ("grow", (10, 0, 1), (2, 0, 1), ((1, 1), (36, 1))))
        self.assertIs(reaches_nothing(one), False)
        self.assertIs(is_open_somewhere(reach_lot(one)), False)
        self.assertIs(reaches_nothing((one[0], ("grow", (10, 0, 1), (2, 0, 1), ((1, 1), (3599, 100))))), True)

    def test_samples_that_reach_nothing(self):
        samples = Samples(97)
        many = 0
        for _ in range(200):
            arm = samples.arm()
            lot = reach_lot(arm)
            self.same_by_name(reaches_nothing, {"arm": arm}, is_empty(lot))
            many += is_empty(lot)
        self.assertGreater(many, 5)

    def test_wrong_arms(self):
        for function, more in ((reach_lot, {}), (reaches_nothing, {}), (first_bar, {"place": FAR})):
            self.check_indexes(InvalidArm, function, {"arm": (), **more}, "arm", WRONG_ARMS)
        self.check_all_given(first_bar, {"arm": ARM, "place": FAR},
            {"arm": (InvalidArm, []), "place": (InvalidPlace, WRONG_PLACES)})
        self.check_all_given(first_bar, {"arm": (), "place": FAR},
            {"arm": (InvalidArm, []), "place": (InvalidPlace, WRONG_PLACES)})


class ReachedLots(ArgumentCase):
    def test_told_ones(self):
        ring = Lot(ring_tree((0, 0, 1), RING))
        for arm, lot, expected in [
            ((), Lot(ALL), True), ((CARRY,), Lot(ALL), True), ((TURNABOUT,), ring, True), ((TURNABOUT,), Lot(ALL), False),
            ((TURNABOUT,), Lot(disc_tree((2, 0, 1), (1, 1))), True),
            ((TURNABOUT,), Lot(disc_tree((2, 0, 1), (1000001, 1000000))), False),
            ((TURNABOUT,), Lot(("rim", (1, 0, 0, -3))), True), (NOTHING, Lot(NONE), True), (NOTHING, ring, False),
            (NOTHING, Lot(("and", (("rim", (0, 1, 0, 0)), ("rim", (0, 1, 0, -1))))), True),
            (ARM, both(ring, reach_lot(ARM)), True),
        ]:
            self.same_by_name(reaches_lot, {"arm": arm, "lot": lot}, expected)

    def test_samples(self):
        samples = Samples(98)
        for lot in rich_lots(99, 60, 4):
            arm = samples.arm(2)
            reach, near = reach_lot(arm), Lot(ring_tree(samples.ratio(3), ((1, 9), (1, 4))))
            for one in (lot, both(lot, reach), less(lot, near), near):
                if len({*one.rounds, *reach.rounds}) <= 8:
                    self.same_by_name(reaches_lot, {"arm": arm, "lot": one}, lies_inside(one, reach))
            self.assertIs(reaches_lot((), lot), True)

    def test_rounds(self):
        for arm, circle, expected in [
            ((), (0, 1, 0, 0), True), ((CARRY, MIRROR), (0, 1, 0, 0), True), ((), (1, 0, 0, -3), True),
            ((TURNABOUT,), (1, 0, 0, -9), True), ((TURNABOUT,), (1, 0, 0, -1), True), ((TURNABOUT,), (1, 0, 0, -3), True),
            ((TURNABOUT,), (1, -4, 0, 3), True), ((TURNABOUT,), (0, 1, 0, -2), False), (ARM, (1, 0, 0, -9), False),
            ((TURNABOUT,), (1, 0, 0, -10), False), (NOTHING, (1, 0, 0, -1), False),
        ]:
            self.same_by_name(reaches_round, {"arm": arm, "circle": circle}, expected)
        samples = Samples(100)
        for _ in range(80):
            arm = samples.arm(2)
            for circle in samples.choice(ROUNDS), (100, 0, 0, -samples.choice((101, 151, 333))):
                for at in (0, 1):
                    moved = round_of(row_back(arm_map(arm[:at]), circle))
                    expected = lies_inside(Lot(("rim", moved)), reach_lot(arm))
                    self.same_by_name(reaches_round, {"arm": arm, "circle": moved}, expected)

    def test_wrong_arguments(self):
        for function, name, error, wrong, good in [
            (reaches_lot, "lot", NotALot, WRONG_LOTS, Lot(SIDE)),
            (reaches_round, "circle", InvalidRound, WRONG_ROUNDS, (1, 0, 0, -1)),
        ]:
            self.check_indexes(InvalidArm, function, {"arm": (), name: good}, "arm", WRONG_ARMS)
            self.check_all_given(function, {"arm": ARM, name: good}, {"arm": (InvalidArm, []), name: (error, wrong)})

    def test_too_many_rounds(self):
        self.assertEqual(len(reach_lot(FOUR).rounds), 8)
        nine = [(FOUR, Lot(("rim", (0, 1, 0, 0))), 9), (FOUR, Lot(tree_with(EIGHT)), 16),
                ((TURNABOUT,), Lot(tree_with([round_of_circle(at) for at in range(1, 9)])), 9)]
        for arm, lot, given in nine:
            self.assertEqual(self.raised(TooMany, reaches_lot, arm, lot).given, given)
            self.assertEqual(self.raised(TooMany, reaches_lot, arm=arm, lot=lot).given, given)
        self.assertIs(reaches_lot(FOUR, Lot(("rim", reach_lot(FOUR).rounds[0]))), False)
        self.assertIs(reaches_round(FOUR, (0, 1, 0, 0)), False)


class TwoReaches(ArgumentCase):
    def test_told_ones(self):
        wide = (("turnabout", (0, 0, 1), (1, 1), ((1, 2), (9, 1))),)
        for arm, other, covers, same in [
            (ARM[:1], ARM, True, False), (ARM, ARM[:1], False, False), ((), (CARRY,), True, True), ((CARRY,), (), True, True),
            ((), ARM, True, False), (ARM, (), False, False), (wide, (TURNABOUT,), True, False),
            ((TURNABOUT,), wide, False, False),
            ((TURNABOUT,), (("grow", (0, 0, 1), (3, 1, 1), RING),), True, True), (NOTHING, NOTHING, True, True),
            (ARM, NOTHING, True, False), (NOTHING, ARM, False, False), ((MIRROR,) + ARM[:1], ARM[:1], True, True),
        ]:
            self.same_by_name(reaches_all, {"arm": arm, "other": other}, covers)
            self.same_by_name(same_reach, {"arm": arm, "other": other}, same)

    def test_samples(self):
        samples = Samples(101)
        found = []
        for _ in range(150):
            arm, other = samples.arm(2), samples.arm(2)
            other = samples.choice((other, arm + other[:1], other[:1] + arm[1:], arm[:1]))
            first, second = reach_lot(arm), reach_lot(other)
            if len({*first.rounds, *second.rounds}) > 8:
                continue
            covers, covered = lies_inside(second, first), lies_inside(first, second)
            self.same_by_name(reaches_all, {"arm": arm, "other": other}, covers)
            self.same_by_name(same_reach, {"arm": arm, "other": other}, covers and covered)
            apart = either(less(first, second), less(second, first))
            for place in (parting_reach(arm, other), parting_reach(arm=arm, other=other)):
                self.assertEqual(place is not None, is_open_somewhere(apart))
                if place is not None:
                    self.assertTrue(is_place(place) and place != FAR)
                    self.assertNotEqual(lets(arm, place), lets(other, place))
            found.append((covers, covered))
        self.assertGreater(min(found.count(pair) for pair in itertools.product((True, False), repeat=2)), 5)

    def test_parting_reach(self):
        self.assertIsNone(parting_reach((), (CARRY,)))
        self.assertIsNone(parting_reach(NOTHING, NOTHING))
        place = parting_reach((), NOTHING)
        self.assertTrue(is_place(place) and place != FAR)
        # Both reaches are the same but for a circle, on which there is no whole place.
        thin = (("grow", (0, 0, 1), (2, 0, 1), ((1, 1), (3, 1))), ("grow", (0, 0, 1), (2, 0, 1), ((12, 1), (13, 1))))
        self.assertIs(same_reach(thin, NOTHING), False)
        self.assertIsNone(parting_reach(thin, NOTHING))

    def test_too_many_rounds(self):
        shifted = tuple(("grow", (3 * at, at, 1), (2, 1, 1), ((1, 10), (10 ** 5, 1))) for at in range(4))
        rounds = {*reach_lot(FOUR).rounds, *reach_lot(shifted).rounds}
        self.assertEqual(len(rounds), 12)
        for function in (reaches_all, same_reach, parting_reach):
            for arm, other, given in ((FOUR, shifted, 12), (shifted, FOUR, 12), (FOUR, (TURNABOUT,), 10),
                ((TURNABOUT,), FOUR, 10)):
                self.assertEqual(self.raised(TooMany, function, arm, other).given, given)
                self.assertEqual(self.raised(TooMany, function, arm=arm, other=other).given, given)
            self.assertIn(function(FOUR, FOUR), (True, None))
        self.assertIs(reaches_all((CARRY,), FOUR), True)

    def test_wrong_arms(self):
        for function in (reaches_all, same_reach, parting_reach):
            for name in ("arm", "other"):
                self.check_indexes(InvalidArm, function, {"arm": FOUR, "other": ARM}, name, WRONG_ARMS)
            self.assertEqual(self.raised(InvalidArm, function, (CARRY, None), None).index, 1)


class AllPlaces(ArgumentCase):
    def test_the_rest_of_a_reach_is_let_by_no_arm(self):
        samples = Samples(102)
        for _ in range(60):
            arm = samples.arm(3)
            place = any_place(rest(reach_lot(arm)))
            self.assertTrue(place is None or not lets(arm, place))
            place = any_place(reach_lot(arm))
            self.assertTrue(place is None or lets(arm, place))


if __name__ == "__main__":
    unittest.main()
