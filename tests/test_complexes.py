"""Promise [6]: complex numbers, quarter form, common divisors, roots."""

import itertools
import unittest

from drawarms.complexes import added, common_divisor, conjugate, norm, product, quarter_form, quotient, root_of, subtracted
from drawarms.errors import InvalidComplex, InvalidNumbers
from tests.support import ANYTHING, BIG, WRONG_COMPLEXES, ArgumentCase, Samples, Value, value_of

UNITS = [(1, 0), (0, 1), (-1, 0), (0, -1)]
SMALL = list(itertools.product(range(-4, 5), repeat=2))
GREAT = [(BIG, -BIG), (10 ** 40 - 1, 10 ** 40 - 3), (-(10 ** 39), 7), (0, 10 ** 40 - 1), (123456789 ** 4, -987654321 ** 3)]


def pair(value):
    return (int(value.real), int(value.imaginary))


class Arithmetic(ArgumentCase):
    def test_sums_differences_and_products(self):
        for number, other in itertools.product(SMALL + GREAT, SMALL[::5] + GREAT):
            first, second = value_of(number), value_of(other)
            self.assertEqual(added(number, other), pair(first + second))
            self.assertEqual(subtracted(number, other), pair(first - second))
            self.assertEqual(product(number, other), pair(first * second))

    def test_conjugates_and_norms(self):
        for number in SMALL + GREAT:
            self.assertEqual(conjugate(number), (number[0], -number[1]))
            self.assertEqual(norm(number), number[0] ** 2 + number[1] ** 2)
            self.assertEqual(product(number, conjugate(number)), (norm(number), 0))

    def test_by_position_and_by_name(self):
        both = {"number": (1, 2), "other": (3, -1)}
        self.same_by_name(added, both, (4, 1))
        self.same_by_name(subtracted, both, (-2, 3))
        self.same_by_name(product, both, (5, 5))
        self.same_by_name(quotient, {"number": (5, 5), "other": (1, 2)}, (3, -1))
        self.same_by_name(conjugate, {"number": (1, 2)}, (1, -2))
        self.same_by_name(norm, {"number": (1, 2)}, 5)
        self.same_by_name(quarter_form, {"number": (-2, 1)}, (1, 2))
        self.same_by_name(common_divisor, {"numbers": ((2, 0), (1, 1))}, (1, 1))
        self.same_by_name(root_of, {"number": (3, 4)}, (2, 1))

    def test_wrong_arguments(self):
        both = {"number": (1, 2), "other": (3, -1)}
        wrong = (InvalidComplex, WRONG_COMPLEXES)
        for function in (added, subtracted, product, quotient):
            self.check_all_given(function, both, {"number": wrong, "other": wrong})
        for function in (conjugate, norm, quarter_form, root_of):
            self.check_all_given(function, {"number": (1, 2)}, {"number": wrong})

    def test_a_wrong_number_comes_before_division_by_zero(self):
        self.check_given(InvalidComplex, quotient, {"number": None, "other": (0, 0)}, "number", [1, 0])
        self.assertIsNone(quotient((0, 0), (0, 0)))
        self.assertIsNone(quotient((1, 0), (0, 0)))


class QuarterForm(ArgumentCase):
    def test_just_one_product_with_a_unit_has_it(self):
        self.assertEqual(quarter_form((0, 0)), (0, 0))
        for number in SMALL + GREAT:
            turned = [product(number, unit) for unit in UNITS]
            if number != (0, 0):
                self.assertEqual([part for part in turned if part[0] > 0 and part[1] >= 0], [quarter_form(number)])
            self.assertEqual({quarter_form(part) for part in turned}, {quarter_form(number)})

    def test_units(self):
        self.assertEqual([quarter_form(unit) for unit in UNITS], [(1, 0)] * 4)
        self.assertEqual([quarter_form(product((0, 5), unit)) for unit in UNITS], [(5, 0)] * 4)


class Quotients(ArgumentCase):
    def test_a_quotient_times_the_divisor_is_the_dividend(self):
        for number, other in itertools.product(SMALL, SMALL):
            found = quotient(number, other)
            if found is not None:
                self.assertEqual(product(found, other), number)
            elif other != (0, 0):
                exact = value_of(number) / value_of(other)
                self.assertNotEqual((exact.real.denominator, exact.imaginary.denominator), (1, 1))

    def test_products_can_be_divided(self):
        for number, other in itertools.product(SMALL + GREAT, SMALL + GREAT):
            if other != (0, 0):
                self.assertEqual(quotient(product(number, other), other), number)

    def test_great_numbers_without_a_quotient(self):
        number = product(GREAT[0], GREAT[1])
        self.assertIsNone(quotient(added(number, (1, 0)), GREAT[1]))


class CommonDivisors(ArgumentCase):
    def check_divisor(self, numbers):
        divisor = common_divisor(numbers)
        self.assertEqual(quarter_form(divisor), divisor)
        for number in numbers:
            self.assertIsNotNone(quotient(number, divisor))
        return divisor

    def test_small_pairs_against_all_divisors(self):
        candidates = [part for part in itertools.product(range(1, 6), range(0, 6))]
        for number, other in itertools.product(SMALL[::3], SMALL):
            if (number, other) != ((0, 0), (0, 0)):
                divisor = self.check_divisor((number, other))
                for candidate in candidates:
                    if quotient(number, candidate) is not None and quotient(other, candidate) is not None:
                        self.assertIsNotNone(quotient(divisor, candidate))

    def test_one_number(self):
        for number in SMALL + GREAT:
            if number != (0, 0):
                self.assertEqual(common_divisor((number,)), quarter_form(number))

    def test_zeros_beside_others(self):
        self.assertEqual(common_divisor(((0, 0), (0, -3))), (3, 0))
        self.assertEqual(common_divisor(((0, 0),) * 7 + ((-1, 1),)), (1, 1))
        self.assertEqual(common_divisor(((-1, 1),) + ((0, 0),) * 7), (1, 1))

    def test_units_and_equal_numbers(self):
        for unit in UNITS:
            self.assertEqual(common_divisor((unit, (5, 7))), (1, 0))
            self.assertEqual(common_divisor((product(unit, (3, 4)), (3, 4), (3, 4))), (3, 4))

    def test_a_factor_comes_out(self):
        samples = Samples(1)
        for many in range(1, 9):
            for _ in range(30):
                numbers = tuple(samples.complex() for _ in range(many - 1)) + (samples.other_than_zero(),)
                factor = samples.other_than_zero(10 ** samples.choice((1, 3, 12)))
                divisor = self.check_divisor(numbers)
                longer = tuple(product(number, factor) for number in numbers)
                self.assertEqual(self.check_divisor(longer), quarter_form(product(divisor, factor)))
                self.assertEqual(common_divisor(numbers[::-1]), divisor)

    def test_great_numbers(self):
        for factor in GREAT:
            self.assertEqual(self.check_divisor((product(factor, (2, 1)), product(factor, (2, -1)))), quarter_form(factor))
        # Neighbours in such a row have units alone as common divisors, and many steps lead there.
        first, second = (1, 0), (1, 1)
        for _ in range(90):
            first, second = second, added(product(second, (1, 1)), first)
        self.assertEqual(common_divisor((first, second)), (1, 0))

    def test_wrong_arguments(self):
        good = ((1, 0), (2, 3))
        wrong = ANYTHING + [
            (1, 0), ((0, 0),), ((0, 0),) * 8, ((1, 0),) * 9, ((1, 0), None), ((1, 0), (1, True)), [(1, 0)], ((1, 0), [1, 0]),
            (((1, 0),),), ((1, 0), (1, 0, 0)), ((True, 0),), ((1, 0),) * 8 + (None,), {(1, 0): 1}, "((1, 0),)",
        ]
        self.check_all_given(common_divisor, {"numbers": good}, {"numbers": (InvalidNumbers, wrong)})
        self.assertEqual(common_divisor(((1, 0),) * 8), (1, 0))


class Roots(ArgumentCase):
    def test_squares_have_their_root(self):
        for number in SMALL + GREAT:
            root = root_of(product(number, number))
            self.assertIn(root, [number, (-number[0], -number[1])])
            self.assertTrue(root[0] > 0 or (root[0] == 0 and root[1] >= 0))

    def test_all_others_have_none(self):
        squares = {product(number, number) for number in itertools.product(range(-8, 9), repeat=2)}
        for number in itertools.product(range(-20, 21), repeat=2):
            root = root_of(number)
            self.assertEqual(root is not None, number in squares)
            if root is not None:
                self.assertEqual(product(root, root), number)

    def test_edges(self):
        self.assertEqual(root_of((0, 0)), (0, 0))
        self.assertEqual([root_of((4, 0)), root_of((-4, 0)), root_of((-1, 0)), root_of((0, -2))], [(2, 0), (0, 2), (0, 1), (1, -1)])
        self.assertEqual([root_of((2, 0)), root_of((0, 1)), root_of((-2, 0)), root_of((3, -4))], [None, None, None, (2, -1)])
        self.assertIsNone(root_of(added(product(GREAT[1], GREAT[1]), (1, 0))))


class Results(unittest.TestCase):
    def test_values_are_as_the_test_works_them_out(self):
        self.assertEqual(Value(1, 2) * Value(3, -1), Value(5, 5))
        self.assertEqual(Value(5, 5) / Value(3, -1), Value(1, 2))


if __name__ == "__main__":
    unittest.main()
