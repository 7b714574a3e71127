"""Promise [7]: places, the far place, ratios."""

import itertools
import unittest
from fractions import Fraction
from math import gcd

from drawarms.complexes import product
from drawarms.errors import InvalidComplex, InvalidRatio, NoPlace
from drawarms.places import difference_of, distance_of, is_place, place_of, product_of, quotient_of, sum_of
from tests.support import BIG, FAR, PLACES, WRONG_COMPLEXES, WRONG_PLACES, WRONG_RATIOS, ArgumentCase, Samples
from tests.support import place_with, quotient_place, value_of

RATIOS = PLACES[1:]
GREAT = [(10 ** 40 - 1, -(10 ** 39), 10 ** 40 - 3), (0, 0, 1), (-(10 ** 40) + 1, 3, 1), (1, 0, 10 ** 40 - 1)]


class WhatIsAPlace(ArgumentCase):
    def test_places(self):
        for place in PLACES + [(-1, 0, 2), (0, 0, 1), (6, 10, 15)]:
            self.assertIs(is_place(place), True)
            self.assertIs(is_place(value=place), True)

    def test_anything_else(self):
        for value in WRONG_PLACES:
            self.assertIs(is_place(value), False)
            self.assertIs(is_place(value=value), False)


class PlacesOfQuotients(ArgumentCase):
    def test_small_quotients(self):
        numbers = list(itertools.product(range(-3, 4), repeat=2))
        for number, other in itertools.product(numbers, numbers):
            if (number, other) != ((0, 0), (0, 0)):
                place = place_of(number, other)
                self.assertEqual(place, quotient_place(value_of(number), value_of(other)))
                self.assertTrue(is_place(place))

    def test_a_common_factor_changes_nothing(self):
        samples = Samples(2)
        for _ in range(200):
            number, other, factor = samples.complex(), samples.other_than_zero(), samples.other_than_zero(BIG)
            self.assertEqual(place_of(product(number, factor), product(other, factor)), place_of(number, other))

    def test_edges(self):
        self.same_by_name(place_of, {"number": (1, 2), "other": (3, -1)}, (1, 7, 10))
        self.same_by_name(place_of, {"number": (0, -5), "other": (0, 0)}, FAR)
        self.same_by_name(place_of, {"number": (0, 0), "other": (0, -5)}, (0, 0, 1))
        self.assertEqual(place_of((BIG, BIG), (-BIG, 0)), (-1, -1, 1))

    def test_wrong_arguments(self):
        wrong = (InvalidComplex, WRONG_COMPLEXES)
        self.check_all_given(place_of, {"number": (1, 2), "other": (3, -1)}, {"number": wrong, "other": wrong})

    def test_zero_by_zero_comes_last(self):
        self.raised(NoPlace, place_of, (0, 0), (0, 0))
        self.raised(NoPlace, place_of, number=(0, 0), other=(0, 0))
        self.check_given(InvalidComplex, place_of, {"number": (0, 0), "other": None}, "other", (0, 0, 0))
        self.check_given(InvalidComplex, place_of, {"number": None, "other": (0, 0)}, "number", (0, False))


class PlacesAsNumbers(ArgumentCase):
    def test_the_four_operations(self):
        for place, other in itertools.product(RATIOS + GREAT, RATIOS + GREAT):
            first, second = value_of(place), value_of(other)
            self.assertEqual(sum_of(place, other), place_with(first + second))
            self.assertEqual(difference_of(place, other), place_with(first - second))
            self.assertEqual(product_of(place, other), place_with(first * second))
            if other != (0, 0, 1):
                self.assertEqual(quotient_of(place, other), place_with(first / second))

    def test_results_lead_back(self):
        samples = Samples(3)
        for _ in range(200):
            place, other = samples.ratio(10 ** 6), samples.ratio(10 ** 6)
            self.assertEqual(difference_of(sum_of(place, other), other), place)
            self.assertEqual(difference_of(place, place), (0, 0, 1))
            if other != (0, 0, 1):
                self.assertEqual(product_of(quotient_of(place, other), other), place)
                self.assertEqual(quotient_of(other, other), (1, 0, 1))

    def test_distances(self):
        for place, other in itertools.product(RATIOS + GREAT, RATIOS):
            apart = distance_of(place, other)
            self.assertEqual(Fraction(*apart), (value_of(place) - value_of(other)).norm())
            self.assertEqual(gcd(*apart), 1)
            self.assertGreater(apart[1], 0)
            self.assertEqual(distance_of(other, place), apart)
        self.assertEqual(distance_of((3, 4, 5), (3, 4, 5)), (0, 1))

    def test_by_position_and_by_name(self):
        both = {"place": (1, 1, 2), "other": (1, -1, 1)}
        self.same_by_name(sum_of, both, (3, -1, 2))
        self.same_by_name(difference_of, both, (-1, 3, 2))
        self.same_by_name(product_of, both, (1, 0, 1))
        self.same_by_name(quotient_of, both, (0, 1, 2))
        self.same_by_name(distance_of, both, (5, 2))

    def test_wrong_arguments(self):
        both = {"place": (1, 1, 2), "other": (1, -1, 1)}
        wrong = (InvalidRatio, WRONG_RATIOS)
        for function in (sum_of, difference_of, product_of, quotient_of, distance_of):
            self.check_all_given(function, both, {"place": wrong, "other": wrong})

    def test_division_by_zero_comes_last(self):
        for place in RATIOS:
            self.raised(NoPlace, quotient_of, place, (0, 0, 1))
            self.raised(NoPlace, quotient_of, place=place, other=(0, 0, 1))
        self.check_given(InvalidRatio, quotient_of, {"place": None, "other": (0, 0, 1)}, "place", FAR)


if __name__ == "__main__":
    unittest.main()
