"""Promises [8], [9] and [10]: rows, rounds, what two of them share, mirror images."""

import itertools
import unittest
from fractions import Fraction
from math import gcd

from drawarms.errors import InvalidPlace, InvalidRound, InvalidRow, Same
from drawarms.places import is_place
from drawarms.rounds import crossing, middle_of, mirrored_place, mirrored_round, radius_of, round_of, round_through, shared
from drawarms.rounds import side_of, touching_place, value_at
from tests.support import BIG, FAR, LINES, PLACES, ROUNDS, WRONG_PLACES, WRONG_ROUNDS, WRONG_ROWS, ArgumentCase, Samples
from tests.support import Value, place_with, value_of

UNIT = (1, 0, 0, -1)
ROWS = ROUNDS + [tuple(-number for number in circle) for circle in ROUNDS]


def beside(row, other):
    return row[1] * other[1] + row[2] * other[2] - 2 * (row[0] * other[3] + other[0] * row[3])


def is_in_form(circle):
    return gcd(*circle) == 1 and circle > (0, 0, 0, 0) and beside(circle, circle) > 0


def middle(circle):
    return Value(Fraction(-circle[1], 2 * circle[0]), Fraction(-circle[2], 2 * circle[0]))


def square_radius(circle):
    return middle(circle).norm() - Fraction(circle[3], circle[0])


def count_shared(circle, other):
    """How many places two different rounds share, by their distances."""
    if circle[0] and other[0]:
        apart = (middle(circle) - middle(other)).norm()
        first, second = square_radius(circle), square_radius(other)
        left, right = (apart - first - second) ** 2, 4 * first * second
        return 2 if left < right else 1 if left == right else 0
    if not circle[0] and not other[0]:
        return 1 if circle[1] * other[2] == circle[2] * other[1] else 2
    line, circle = (circle, other) if circle[0] == 0 else (other, circle)
    spot = middle(circle)
    height = line[1] * spot.real + line[2] * spot.imaginary + line[3]
    left, right = height ** 2, square_radius(circle) * (line[1] ** 2 + line[2] ** 2)
    return 2 if left < right else 1 if left == right else 0


class Rows(ArgumentCase):
    def test_round_of(self):
        for circle in ROUNDS:
            self.same_by_name(round_of, {"row": circle}, circle)
            self.same_by_name(round_of, {"row": tuple(-number for number in circle)}, circle)
        self.assertEqual(round_of((0, 0, -1, 0)), (0, 0, 1, 0))
        self.assertEqual(round_of((0, -2, 3, 5)), (0, 2, -3, -5))

    def test_values(self):
        for row, place in itertools.product(ROWS, PLACES[1:]):
            q, l, m, k = row
            spot, under = value_of(place), place[2]
            exact = q * spot.norm() + l * spot.real + m * spot.imaginary + k
            self.same_by_name(value_at, {"row": row, "place": place}, int(exact * under * under))
            self.same_by_name(side_of, {"row": row, "place": place}, (exact > 0) - (exact < 0))

    def test_values_at_the_far_place(self):
        for row in ROWS:
            self.assertEqual(value_at(row, FAR), row[0])
            self.assertEqual(side_of(row, FAR), (row[0] > 0) - (row[0] < 0))

    def test_wrong_arguments(self):
        self.check_all_given(round_of, {"row": UNIT}, {"row": (InvalidRow, WRONG_ROWS)})
        for function in (value_at, side_of):
            arguments = {"row": UNIT, "place": (1, 0, 1)}
            self.check_all_given(function, arguments, {"row": (InvalidRow, WRONG_ROWS), "place": (InvalidPlace, WRONG_PLACES)})


class RoundsThroughPlaces(ArgumentCase):
    def test_the_value_is_zero_at_each_place(self):
        samples = Samples(4)
        for size in (3, 12, 10 ** 13):
            for _ in range(150):
                places = samples.places(3, size)
                circle = round_through(*places)
                self.assertTrue(is_in_form(circle))
                self.assertEqual([value_at(circle, place) for place in places], [0, 0, 0])
                for order in itertools.permutations(places):
                    self.assertEqual(round_through(*order), circle)

    def test_lines(self):
        self.same_by_name(round_through, {"first": (0, 0, 1), "second": (1, 1, 1), "third": FAR}, (0, 1, -1, 0))
        self.assertEqual(round_through((0, 0, 1), (1, 1, 1), (2, 2, 1)), (0, 1, -1, 0))
        self.assertEqual(round_through(FAR, (1, 0, 2), (1, 5, 3)), round_through((1, 5, 3), (1, 0, 2), FAR))

    def test_great_places(self):
        places = ((BIG, 0, 1), (0, BIG, 1), (-BIG, 0, 1))
        self.assertEqual(round_through(*places), (1, 0, 0, -BIG * BIG))

    def test_wrong_arguments(self):
        good = {"first": (0, 0, 1), "second": (1, 0, 1), "third": FAR}
        wrong = (InvalidPlace, WRONG_PLACES)
        self.check_all_given(round_through, good, {"first": wrong, "second": wrong, "third": wrong})

    def test_equal_places_come_last(self):
        one, two = (1, 0, 2), (0, 1, 1)
        for places, given in [((one, one, two), one), ((one, two, one), one), ((two, one, one), one), ((one,) * 3, one),
                              ((FAR, two, FAR), FAR)]:
            self.assertEqual(self.raised(Same, round_through, *places).given, given)
            named = dict(zip(("first", "second", "third"), places))
            self.assertEqual(self.raised(Same, round_through, **named).given, given)
        self.assertEqual(self.raised(InvalidPlace, round_through, one, one, None).given, None)
        self.assertEqual(self.raised(InvalidPlace, round_through, None, one, one).given, None)


class MiddlesAndRadii(ArgumentCase):
    def test_circles(self):
        for circle in ROUNDS:
            if circle[0]:
                self.same_by_name(middle_of, {"circle": circle}, place_with(middle(circle)))
                radius = radius_of(circle=circle)
                self.assertEqual(Fraction(*radius), square_radius(circle))
                self.assertEqual((gcd(*radius), radius[1] > 0), (1, True))
        self.assertEqual((middle_of((3, 1, 5, -2)), radius_of((3, 1, 5, -2))), ((-1, -5, 6), (25, 18)))

    def test_lines(self):
        for line in LINES:
            self.same_by_name(middle_of, {"circle": line}, FAR)
            self.assertIsNone(radius_of(line))
            self.assertIsNone(radius_of(circle=line))

    def test_wrong_arguments(self):
        for function in (middle_of, radius_of):
            self.check_all_given(function, {"circle": UNIT}, {"circle": (InvalidRound, WRONG_ROUNDS)})


class WhatTwoRoundsShare(ArgumentCase):
    def check_pair(self, circle, other):
        many = shared(circle, other)
        if circle == other:
            self.assertIsNone(many)
            self.assertEqual(crossing(circle, other), (1, 1))
            self.assertIsNone(touching_place(circle, other))
            return
        self.assertEqual(many, count_shared(circle, other), (circle, other))
        exact = Fraction(beside(circle, other) ** 2, beside(circle, circle) * beside(other, other))
        self.assertEqual(crossing(circle, other), (exact.numerator, exact.denominator))
        place = touching_place(circle, other)
        self.assertEqual(place is not None, many == 1)
        if place is not None:
            self.assertTrue(is_place(place))
            self.assertEqual((value_at(circle, place), value_at(other, place)), (0, 0))
        self.assertEqual((shared(other, circle), touching_place(other, circle)), (many, place))

    def test_chosen_rounds(self):
        for circle, other in itertools.product(ROUNDS, ROUNDS):
            self.check_pair(circle, other)

    def test_many_rounds(self):
        samples = Samples(5)
        for size in (2, 4, 12, 10 ** 12):
            for _ in range(300):
                self.check_pair(samples.circle(size), samples.circle(size))

    def test_rounds_that_touch(self):
        cases = [
            (UNIT, (1, -4, 0, 3), (1, 0, 1)), (UNIT, (1, -1, 0, 0), (1, 0, 1)), (UNIT, (0, 3, 4, -5), (3, 4, 5)),
            ((0, 1, 0, 0), (0, 1, 0, -5), FAR), ((0, 2, 3, 1), (0, 2, 3, -BIG), FAR), ((0, 1, 0, 0), (1, -2 * BIG, 0, 0), (0, 0, 1)),
        ]
        for circle, other, place in cases:
            self.same_by_name(shared, {"circle": circle, "other": other}, 1)
            self.same_by_name(touching_place, {"circle": circle, "other": other}, place)
            self.same_by_name(crossing, {"circle": circle, "other": other}, (1, 1))
            self.assertEqual(touching_place(other, circle), place)

    def test_circles_about_one_middle(self):
        self.same_by_name(shared, {"circle": UNIT, "other": (1, 0, 0, -4)}, 0)
        self.same_by_name(crossing, {"circle": UNIT, "other": (1, 0, 0, -4)}, (25, 16))
        self.assertIsNone(touching_place(UNIT, (1, 0, 0, -4)))

    def test_upright_rounds(self):
        self.same_by_name(crossing, {"circle": UNIT, "other": (0, 1, 0, 0)}, (0, 1))
        self.assertEqual(crossing(UNIT, (1, -4, 0, 1)), (0, 1))
        self.assertEqual(crossing((0, 1, 0, 0), (0, 1, 1, 3)), (1, 2))

    def test_wrong_arguments(self):
        wrong = (InvalidRound, WRONG_ROUNDS)
        for function in (shared, crossing, touching_place, mirrored_round):
            self.check_all_given(function, {"circle": UNIT, "other": (0, 1, 0, 0)}, {"circle": wrong, "other": wrong})


class MirrorImages(ArgumentCase):
    def image(self, circle, place):
        """The mirror image by the words of [10]."""
        if circle[0]:
            spot = middle(circle)
            if place == FAR or value_of(place) == spot:
                return place_with(spot) if place == FAR else FAR
            return place_with(spot + Value(square_radius(circle)) / (value_of(place) - spot).conjugate())
        if place == FAR:
            return FAR
        across, spot = Value(circle[1], circle[2]), value_of(place)
        height = (circle[1] * spot.real + circle[2] * spot.imaginary + circle[3]) / across.norm()
        return place_with(spot - across * Value(2 * height))

    def test_places(self):
        for circle, place in itertools.product(ROUNDS, PLACES):
            image = mirrored_place(circle, place)
            self.same_by_name(mirrored_place, {"circle": circle, "place": place}, self.image(circle, place))
            self.assertEqual(mirrored_place(circle, image), place)
            self.assertEqual(image == place, value_at(circle, place) == 0)

    def test_the_middle_and_the_far_place_change(self):
        for circle in ROUNDS:
            self.assertEqual(mirrored_place(circle, FAR), middle_of(circle))
            self.assertEqual(mirrored_place(circle, middle_of(circle)), FAR)

    def test_places_on_a_round_stay(self):
        for place in [(3, 4, 5), (1, 0, 1), (0, -1, 1)]:
            self.assertEqual(mirrored_place(UNIT, place), place)

    def test_rounds_go_as_their_places_go(self):
        samples = Samples(6)
        for _ in range(300):
            mirror, places = samples.circle(), samples.places(3)
            circle = round_through(*places)
            image = mirrored_round(circle=mirror, other=circle)
            self.assertEqual(image, round_through(*[mirrored_place(mirror, place) for place in places]))
            self.assertEqual(mirrored_round(mirror, image), circle)
            self.assertTrue(is_in_form(image))

    def test_rounds(self):
        self.same_by_name(mirrored_round, {"circle": UNIT, "other": (0, 1, 0, -1)}, (1, -1, 0, 0))
        self.same_by_name(mirrored_round, {"circle": UNIT, "other": (1, 0, 0, -4)}, (4, 0, 0, -1))
        self.same_by_name(mirrored_round, {"circle": (0, 1, 0, 0), "other": (1, -2, 0, 0)}, (1, 2, 0, 0))
        for circle in ROUNDS:
            self.assertEqual(mirrored_round(circle, circle), circle)

    def test_upright_rounds_and_no_others_stay(self):
        for circle, other in itertools.product(ROUNDS, ROUNDS):
            stays = mirrored_round(circle, other) == other
            self.assertEqual(stays, circle == other or crossing(circle, other) == (0, 1))

    def test_a_round_without_whole_places(self):
        self.assertEqual(mirrored_round((1, 0, 0, -3), (1, 0, 0, -9)), (1, 0, 0, -1))
        self.assertEqual(mirrored_place((1, 0, 0, -3), (1, 0, 1)), (3, 0, 1))

    def test_what_two_rounds_share_is_kept(self):
        samples = Samples(7)
        for _ in range(200):
            mirror, circle, other = samples.circle(6), samples.circle(6), samples.circle(6)
            images = mirrored_round(mirror, circle), mirrored_round(mirror, other)
            self.assertEqual((shared(*images), crossing(*images)), (shared(circle, other), crossing(circle, other)))

    def test_wrong_arguments(self):
        wrongs = {"circle": (InvalidRound, WRONG_ROUNDS), "place": (InvalidPlace, WRONG_PLACES)}
        self.check_all_given(mirrored_place, {"circle": UNIT, "place": (2, 0, 1)}, wrongs)


if __name__ == "__main__":
    unittest.main()
