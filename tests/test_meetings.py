"""Promises [17], [18] and [19]: where two rounds meet, on which side a meeting lies, all signs that occur."""

import itertools
import unittest
from decimal import Decimal, localcontext
from math import gcd, isqrt

from drawarms.errors import InvalidRound, InvalidRounds, InvalidRow, InvalidSign, NoMeeting, Same
from drawarms.inside import any_place, is_empty
from drawarms.lots import Lot
from drawarms.meetings import meeting_place, meetings, side_at, signs_for
from drawarms.rounds import round_of, shared, side_of, touching_place, value_at
from tests.oracles import product, signs_that_occur
from tests.support import BIG, FAR, PLACES, ROUNDS, WRONG_ROUNDS, WRONG_ROWS, WRONG_SIGNS, ArgumentCase, Samples
from tests.support import indexes_of_wrong, round_of_circle

UNIT, UPRIGHT, FLAT = (1, 0, 0, -1), (0, 1, 0, 0), (0, 0, 1, 0)
NINE = tuple(round_of_circle(at) for at in range(9))


def parts_by_words(circle, other):
    """U, c, G and E, by the words of [18]."""
    (q, l, m, k), (q2, l2, m2, k2) = circle, other
    n, n2, e, e2 = (l, m, q - k), (l2, m2, q2 - k2), q + k, q2 + k2
    a, b, d = [sum(x * y for x, y in zip(*pair)) for pair in ((n, n), (n, n2), (n2, n2))]
    c = (n[1] * n2[2] - n2[1] * n[2], n[2] * n2[0] - n2[2] * n[0], n[0] * n2[1] - n2[0] * n[1])
    upper = tuple((e2 * b - e * d) * x + (e * b - e2 * a) * y for x, y in zip(n, n2))
    under = a * d - b * b
    return upper, c, under, under - (e * e * d - 2 * e * e2 * b + e2 * e2 * a)


def exact_value(row, circle, other, sign):
    """The value of a row at a meeting, times what stands under it, as a decimal of so many figures that its sign is sure."""
    upper, c, under, square = parts_by_words(circle, other)
    q, l, m, k = row
    n = (l, m, q - k)
    whole = sum(x * y for x, y in zip(n, upper)) + (q + k) * under
    many = sign * sum(x * y for x, y in zip(n, c))
    with localcontext() as context:
        context.prec = 2000
        value = Decimal(whole) + many * Decimal(square).sqrt()
        return 0 if abs(value) < Decimal(10) ** -900 else (1 if value > 0 else -1)


def sum_of_rows(row, many, other, other_many):
    return tuple(many * number + other_many * beside for number, beside in zip(row, other))


class Meetings(ArgumentCase):
    def test_told_ones(self):
        for circle, other, expected in [
            (UNIT, UPRIGHT, (-1, 1)), (UNIT, (0, 1, 0, -1), (0,)), (UNIT, (1, 0, 0, -4), ()), (UPRIGHT, FLAT, (-1, 1)),
            (UPRIGHT, (0, 1, 0, -1), (0,)), (UNIT, (0, 2, 0, -1), (-1, 1)), (UNIT, (1, 0, 0, -3), ()),
            ((1, 0, 0, -3), FLAT, (-1, 1)), (UNIT, (1, -4, 0, 3), (0,)), ((1, -4, 0, 3), (1, 4, 0, 3), ()),
            ((1, -2 * BIG, 0, 0), UPRIGHT, (0,)), ((BIG, 1, 0, -BIG), UNIT, (-1, 1)), ((0, 1, 0, -BIG), UNIT, ()),
        ]:
            self.same_by_name(meetings, {"circle": circle, "other": other}, expected)
            self.same_by_name(meetings, {"circle": other, "other": circle}, expected)

    def test_as_many_as_places_are_shared(self):
        samples = Samples(60)
        pairs = list(itertools.permutations(ROUNDS, 2)) + [(samples.circle(3), samples.circle(3)) for _ in range(500)]
        for circle, other in pairs:
            if circle != other:
                self.assertEqual(meetings(circle, other), ((), (0,), (-1, 1))[shared(circle, other)])

    def test_wrong_arguments(self):
        wrong = (InvalidRound, WRONG_ROUNDS)
        self.check_all_given(meetings, {"circle": UNIT, "other": UPRIGHT}, {"circle": wrong, "other": wrong})

    def test_the_same_round(self):
        for circle in ROUNDS:
            self.check_given(Same, meetings, {"circle": circle, "other": FLAT}, "other", tuple(circle))
        self.raised(InvalidRound, meetings, (2, 0, 0, -2), (2, 0, 0, -2))


class MeetingPlaces(ArgumentCase):
    def test_told_ones(self):
        for circle, other, sign, expected in [
            (UNIT, UPRIGHT, 1, (0, 1, 1)), (UNIT, UPRIGHT, -1, (0, -1, 1)), (UPRIGHT, UNIT, 1, (0, -1, 1)),
            (UNIT, (0, 1, 0, -1), 0, (1, 0, 1)), (UPRIGHT, FLAT, 1, FAR), (UPRIGHT, FLAT, -1, (0, 0, 1)),
            (FLAT, UPRIGHT, -1, FAR), (UPRIGHT, (0, 1, 0, -1), 0, FAR), (UNIT, (0, 0, 5, -3), -1, (4, 3, 5)),
        ]:
            self.same_by_name(meeting_place, {"circle": circle, "other": other, "sign": sign}, expected)
        for sign in (-1, 1):
            self.assertIsNone(meeting_place(UNIT, (0, 2, 0, -1), sign))
            self.assertIsNone(meeting_place(circle=(1, 0, 0, -3), other=FLAT, sign=sign))

    def test_touching_places_are_whole(self):
        samples = Samples(61)
        for _ in range(100):
            circle, place = samples.circle(4), samples.place(4)
            if value_at(circle, place):
                continue
            others = [other for other in ROUNDS if other != circle and shared(circle, other) == 1]
            for other in others:
                self.assertEqual(meeting_place(circle, other, 0), touching_place(circle, other))
        self.assertEqual(meeting_place((1, -2 * BIG, 0, 0), UPRIGHT, 0), (0, 0, 1))

    def test_places_by_the_words(self):
        samples = Samples(62)
        whole = 0
        for _ in range(800):
            circle, other = samples.circle(3), samples.circle(3)
            if circle == other:
                continue
            upper, c, under, square = parts_by_words(circle, other)
            self.assertEqual(square, product(circle, circle) * product(other, other) - product(circle, other) ** 2)
            for sign in meetings(circle, other):
                place = meeting_place(circle, other, sign)
                self.assertEqual(place is not None, isqrt(square) ** 2 == square)
                if place is not None:
                    whole += 1
                    p, s, r = place
                    size = p * p + s * s + r * r
                    point = [x + sign * isqrt(square) * y for x, y in zip(upper, c)]
                    told = (2 * p * r, 2 * s * r, p * p + s * s - r * r)
                    self.assertEqual([x * size for x in point], [x * under for x in told])
                    self.assertEqual((value_at(circle, place), value_at(other, place)), (0, 0))
                    self.assertEqual(meeting_place(other, circle, -sign), place)
        self.assertGreater(whole, 50)

    def test_great_numbers(self):
        self.assertEqual(meeting_place((0, 1, 0, -BIG), (0, 0, 1, BIG), -1), (BIG, -BIG, 1))
        self.assertEqual(meeting_place((0, 1, 0, -BIG), (0, 0, 1, BIG), 1), FAR)
        self.assertEqual(meeting_place((1, 0, 0, -BIG * BIG), (0, 1, 0, -BIG), 0), (BIG, 0, 1))
        self.assertIsNone(meeting_place((1, 0, 0, -BIG * BIG), (0, 1, 0, 1 - BIG), 1))

    def test_wrong_arguments(self):
        wrong = (InvalidRound, WRONG_ROUNDS)
        wrongs = {"circle": wrong, "other": wrong, "sign": (InvalidSign, WRONG_SIGNS)}
        self.check_all_given(meeting_place, {"circle": UNIT, "other": UPRIGHT, "sign": 1}, wrongs)


class Sides(ArgumentCase):
    def test_told_ones(self):
        for row, circle, other, sign, expected in [
            (FLAT, UNIT, (0, 2, 0, -1), 1, 1), ((0, 0, -1, 0), UNIT, (0, 2, 0, -1), 1, -1),
            ((0, 1, 0, -1), UNIT, (0, 2, 0, -1), -1, -1), ((1, 0, 0, -3), UPRIGHT, FLAT, 1, 1),
            ((-1, 0, 0, 3), UPRIGHT, FLAT, 1, -1), ((1, 0, 0, -3), UPRIGHT, FLAT, -1, -1), (UNIT, (1, 0, 0, -3), FLAT, 1, 1),
            ((0, 1, 0, -2), (0, 1, 0, 0), (0, 1, 0, -1), 0, 0), ((0, 1, -1, 0), UNIT, (0, 1, -1, 0), 1, 0),
        ]:
            self.same_by_name(side_at, {"row": row, "circle": circle, "other": other, "sign": sign}, expected)

    def test_whole_meetings_have_the_side_of_their_place(self):
        samples = Samples(63)
        for circle, other in itertools.permutations(ROUNDS[:13], 2):
            for sign in meetings(circle, other):
                place = meeting_place(circle, other, sign)
                for row in [samples.row(4) for _ in range(4)] if place else ():
                    self.assertEqual(side_at(row, circle, other, sign), side_of(row, place))

    def test_all_meetings_by_the_words(self):
        samples = Samples(64)
        for _ in range(60):
            circle, other = samples.circle(samples.choice((2, 5, BIG))), samples.circle(samples.choice((2, 5, BIG)))
            if circle == other:
                continue
            for sign in meetings(circle, other):
                for row in [samples.row(samples.choice((2, 5, BIG))) for _ in range(4)]:
                    expected = exact_value(row, circle, other, sign)
                    self.assertEqual(side_at(row, circle, other, sign), expected)
                    self.assertEqual(side_at(tuple(-number for number in row), circle, other, sign), -expected)
                    self.assertEqual(side_at(row, other, circle, -sign), expected)

    def test_rounds_of_the_pencil_go_through_all_meetings(self):
        samples = Samples(65)
        through = 0
        for _ in range(300):
            size = samples.choice((3, 3, BIG))
            circle, other = samples.circle(size), samples.circle(size)
            if circle == other or not meetings(circle, other):
                continue
            made = sum_of_rows(circle, 1 + abs(samples.whole()), other, samples.whole())
            if product(made, made) <= 0:
                continue
            row = round_of(tuple(number // gcd(*made) for number in made))
            for sign in meetings(circle, other):
                through += 1
                self.assertEqual(side_at(row, circle, other, sign), 0)
                self.assertEqual(side_at(circle, circle, other, sign), 0)
                self.assertEqual(side_at(other, circle, other, sign), 0)
        self.assertGreater(through, 150)

    def test_just_beside_a_meeting_that_is_not_whole(self):
        # The root of 3 by 2 lies between these two.
        near, beyond = isqrt(3 * 10 ** 60), isqrt(3 * 10 ** 60) + 1
        for height, expected in ((near, 1), (beyond, -1)):
            common = gcd(2 * 10 ** 30, height)
            row = (0, 0, 2 * 10 ** 30 // common, -height // common)
            self.assertEqual(side_at(row, UNIT, (0, 2, 0, -1), 1), expected)
            self.assertEqual(side_at(row, UNIT, (0, 2, 0, -1), -1), -1)

    def test_wrong_arguments(self):
        wrong = (InvalidRound, WRONG_ROUNDS)
        wrongs = {"row": (InvalidRow, WRONG_ROWS), "circle": wrong, "other": wrong, "sign": (InvalidSign, WRONG_SIGNS)}
        self.check_all_given(side_at, {"row": FLAT, "circle": UNIT, "other": UPRIGHT, "sign": 1}, wrongs)


class LastErrors(ArgumentCase):
    def test_same_comes_ahead_of_no_meeting_and_behind_the_sign(self):
        for function, more in ((meeting_place, ()), (side_at, (FLAT,))):
            for circle in ROUNDS:
                for sign in (-1, 0, 1):
                    self.assertIs(self.raised(Same, function, *more, circle, circle, sign).given, circle)
                self.assertEqual(self.raised(InvalidSign, function, *more, circle, circle, 2).given, 2)
                self.assertIs(self.raised(InvalidSign, function, *more, circle, circle, True).given, True)

    def test_no_meeting(self):
        for function, more in ((meeting_place, {}), (side_at, {"row": FLAT})):
            for other, signs in ((UPRIGHT, (0,)), ((0, 1, 0, -1), (-1, 1)), ((1, 0, 0, -4), (-1, 0, 1))):
                for sign in signs:
                    self.check_given(NoMeeting, function, {**more, "circle": UNIT, "other": other, "sign": 1}, "sign", sign)
        self.raised(InvalidRow, side_at, (0, 0, 0, 1), UNIT, UNIT, 0)


class Signs(ArgumentCase):
    def test_told_ones(self):
        for rounds, expected in [
            ((), ((),)), ((UNIT,), ((-1,), (0,), (1,))), (((1, 0, 0, -3),), ((-1,), (0,), (1,))),
            ((UNIT, (1, 0, 0, -4)), ((-1, -1), (0, -1), (1, -1), (1, 0), (1, 1))),
            (((1, 0, 0, -4), UNIT), ((-1, -1), (-1, 0), (-1, 1), (0, 1), (1, 1))),
            ((UNIT, (0, 1, 0, -1)), ((-1, -1), (0, -1), (0, 0), (1, -1), (1, 0), (1, 1))),
            ((UPRIGHT, (0, 1, 0, -1)), ((-1, -1), (0, -1), (0, 0), (1, -1), (1, 0), (1, 1))),
            ((UPRIGHT, FLAT), tuple(itertools.product((-1, 0, 1), repeat=2))),
        ]:
            self.same_by_name(signs_for, {"rounds": rounds}, expected)

    def test_signs_by_angles(self):
        samples = Samples(66)
        for _ in range(400):
            rounds = tuple(dict.fromkeys(samples.circle(samples.choice((1, 2, 3, 5))) for _ in range(samples.choice((1,
                2, 3, 4, 8)))))
            self.assertEqual(signs_for(rounds), tuple(sorted(signs_that_occur(rounds))))

    def test_bundles_and_nests_by_angles(self):
        through_zero = tuple(round_of((1, at, 2 - at, 0)) for at in (-3, -1, 1, 2, 5, 7)) + (UPRIGHT, FLAT)
        touching = tuple((1, at, 0, 0) for at in (1, 2, -1, -3)) + (UPRIGHT, (1, -8, 0, 0), (1, 16, 0, 0), (2, 1, 0, 0))
        parallel = tuple((0, 1, 0, at) for at in range(-4, 4))
        grid = tuple((0, 1, 0, at) for at in range(4)) + tuple((0, 0, 1, at) for at in range(4))
        bare = ((1, 0, 0, -3), (1, 0, 0, -7), (1, -6, 0, 2), (2, 0, 0, -3), (1, 0, -2, -6), (1, 0, 0, -11))
        for rounds in (through_zero, touching, parallel, grid, bare, NINE[:8], tuple(reversed(touching))):
            for many in range(len(rounds) + 1):
                self.assertEqual(signs_for(rounds[:many]), tuple(sorted(signs_that_occur(rounds[:many]))))
        # Those of the places and those of the far one, which lies on all eight.
        self.assertEqual(len(signs_for(grid)), 9 * 9 + 1)
        self.assertEqual(len(signs_for(NINE[:8])), 17)

    def test_signs_that_places_have_are_told(self):
        samples = Samples(67)
        for size in (3, 12, BIG):
            rounds = tuple(samples.circle(size) for _ in range(6))
            found = signs_for(rounds)
            self.assertEqual(found, tuple(sorted(set(found))))
            for place in PLACES + [samples.place(size) for _ in range(40)]:
                self.assertIn(tuple(side_of(circle, place) for circle in rounds), found)
            for circle, other in itertools.combinations(rounds, 2):
                for sign in meetings(circle, other):
                    self.assertIn(tuple(side_at(row, circle, other, sign) for row in rounds), found)

    def test_told_open_signs_have_places(self):
        samples = Samples(68)
        for size in (4, BIG):
            rounds = tuple(sorted(samples.circle(size) for _ in range(4)))
            found = signs_for(rounds)
            for signs in itertools.product((-1, 1), repeat=4):
                leaves = [("side", row if sign > 0 else tuple(-number for number in row)) for row, sign in zip(rounds, signs)]
                lot = Lot(("and", tuple(leaves) + tuple(("not", ("rim", row)) for row in rounds)))
                self.assertIs(is_empty(lot), signs not in found)
                place = any_place(lot)
                self.assertEqual(place is None, signs not in found)
                if place:
                    self.assertEqual(tuple(side_of(circle, place) for circle in rounds), signs)

    def test_the_order_of_the_rounds(self):
        rounds = (UNIT, UPRIGHT, (1, 0, 0, -3), (0, 1, 1, -1))
        expected = signs_for(rounds)
        for order in itertools.permutations(range(4)):
            turned = signs_for(tuple(rounds[at] for at in order))
            self.assertEqual(turned, tuple(sorted(tuple(signs[at] for at in order) for signs in expected)))

    def test_wrong_rounds(self):
        told = indexes_of_wrong(NINE, WRONG_ROUNDS, 8)
        self.check_indexes(InvalidRounds, signs_for, {}, "rounds", told)
        again = [((UNIT, UNIT), 1), ((UNIT, FLAT, UPRIGHT, FLAT), 3), (NINE[:7] + (NINE[2],), 7), (NINE[:8] + (NINE[0],), 8)]
        self.check_indexes(InvalidRounds, signs_for, {}, "rounds", again)


if __name__ == "__main__":
    unittest.main()
