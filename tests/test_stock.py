"""Promises [38] and [39]: what a stock of ratios makes, and scales that bar a ratio."""

import itertools
import unittest
from fractions import Fraction
from math import gcd

from drawarms.arms import arm_map, is_arm
from drawarms.complexes import common_divisor, norm, quotient
from drawarms.errors import InvalidExponents, InvalidRatio, InvalidRing, InvalidSize, InvalidStock
from drawarms.maps import led_place, map_of
from drawarms.places import product_of, quotient_of
from drawarms.stock import exponents_for, independent, is_made, is_size_made, makes_all, needed_ratios, product_of_powers
from drawarms.stock import scale_for, stock_arm
from tests.support import BIG, FAR, PLACES, RING, WRONG_FRACTIONS, WRONG_RATIOS, WRONG_RINGS, ArgumentCase, Samples
from tests.support import ANYTHING, indexes_of_wrong

ZERO, ONE, TURN, BACK = (0, 0, 1), (1, 0, 1), (0, 1, 1), (-1, 0, 1)
TWO, THREE, HALF, DIAGONAL = (2, 0, 1), (3, 0, 1), (1, 0, 2), (1, 1, 1)
UNITS = [(1, 0), (0, 1), (-1, 0), (0, -1)]
SMALL = [
    TWO, TURN, BACK, DIAGONAL, HALF, THREE, (2, 1, 1), (2, -1, 1), (3, 4, 5), (4, 0, 1), (8, 0, 1), (6, 0, 1), (12, 0, 1),
    (0, 2, 1),
    (9, 0, 4), (5, 0, 1), (10, 0, 3), (-2, 0, 1), (0, -8, 1), (1, 1, 2), (-1, 8, 35), (0, -1, 1), (1, -1, 1), (16, 0, 1),
]
SEVEN = (TWO, THREE, (5, 0, 1), (7, 0, 1), DIAGONAL, HALF, TURN)


def power(ratio, many):
    found = ONE
    for _ in range(abs(many)):
        found = product_of(found, ratio) if many > 0 else quotient_of(found, ratio)
    return found


def product(stock, exponents):
    found = ONE
    for ratio, many in zip(stock, exponents):
        found = product_of(found, power(ratio, many))
    return found


def written(ratio, base):
    """The exponents of a ratio in a base, and that of i; a failure if it can't be written so."""
    exponents, left = [], ratio
    for number in base:
        upper, lower = (left[0], left[1]), (left[2], 0)
        common = common_divisor((upper, lower))
        upper, lower = quotient(upper, common), quotient(lower, common)
        many = 0
        while quotient(upper, number) is not None:
            upper, many = quotient(upper, number), many + 1
        while quotient(lower, number) is not None:
            lower, many = quotient(lower, number), many - 1
        exponents.append(many)
        left = quotient_of(left, power((number[0], number[1], 1), many))
    assert left[2] == 1, (ratio, base)
    return exponents, UNITS.index(left[:2])


class StockCase(ArgumentCase):
    def check_scale(self, stock, ratio, scale):
        base, weights, unit, many = scale
        self.assertEqual((len(scale), len(base), base.__class__, weights.__class__), (4, len(weights), tuple, tuple))
        for number in base:
            self.assertGreater(norm(number), 1)
        for number, other in itertools.combinations(base, 2):
            self.assertEqual(common_divisor((number, other)), (1, 0))
        self.assertGreaterEqual(many, 2)
        self.assertEqual(4 * unit % many, 0)
        rests = []
        for one in stock + (ratio,):
            exponents, turns = written(one, base)
            rests.append((unit * turns + sum(a * b for a, b in zip(exponents, weights))) % many)
        self.assertEqual(rests[:-1], [0] * len(stock))
        self.assertNotEqual(rests[-1], 0)


class Made(StockCase):
    def test_told_ones(self):
        for stock, ratio, expected in [
            ((DIAGONAL, TWO), TURN, True), ((TWO, THREE), TURN, False), (((8, 0, 1),), (4, 0, 1), False),
            (((8, 0, 1), (4, 0, 1)), TWO, True),
            ((TURN,), BACK, True), ((BACK,), TURN, False), ((TURN,), ONE, True), ((TWO,), ONE, True), ((TURN,), TWO, False),
            ((DIAGONAL,), TWO, False), ((DIAGONAL,), (0, 2, 1), True), ((DIAGONAL,), (16, 0, 1), True),
            ((DIAGONAL,), (-4, 0, 1), True),
            (((2, 1, 1),), (2, -1, 1), False), (((2, 1, 1), (5, 0, 1)), (2, -1, 1), True),
            (((6, 0, 1), (10, 0, 1)), (15, 0, 1), False),
            (((6, 0, 1), (10, 0, 1), (15, 0, 1)), (900, 0, 1), True), (((6, 0, 1), (10, 0, 1), (15, 0, 1)), TWO, False),
            (((6, 0, 1), (10, 0, 1), (15, 0, 1)), (4, 0, 1), True), (((-2, 0, 1),), (4, 0, 1), True), (((-2, 0, 1),), TWO, False),
            (((-2, 0, 1), BACK), TWO, True), (((4, 0, 1), (-4, 0, 1)), BACK, True), (((3, 4, 5),), (-7, 24, 25), True),
            (((3, 4, 5),), (3, -4, 5), True), (((3, 4, 5),), (4, 3, 5), False), (((2, 0, 3), (4, 0, 27)), THREE, True),
            (((6, 0, 1), (270, 0, 1), (625, 0, 1)), (1125, 0, 1), False),
            (((6, 0, 1), (270, 0, 1), (625, 0, 1)), (45, 0, 1), True),
            (((BIG, 0, 1),), (BIG * BIG, 0, 1), True), (((BIG, 1, 3),), (BIG, -1, 3), False), (((2 ** 120, 0, 1),), TWO, False),
        ]:
            self.same_by_name(is_made, {"stock": stock, "ratio": ratio}, expected)
            exponents, scale = exponents_for(stock, ratio), scale_for(stock=stock, ratio=ratio)
            self.assertEqual((exponents is not None, scale is None), (expected, expected))
            if expected:
                self.assertEqual(product(stock, exponents), ratio)
            else:
                self.check_scale(stock, ratio, scale)

    def test_units_alone_have_a_scale_without_a_base(self):
        self.assertEqual(scale_for((BACK,), TURN)[:2], ((), ()))
        self.check_scale((BACK,), TURN, scale_for((BACK,), TURN))
        self.check_scale((TURN, BACK), TWO, scale_for((TURN, BACK), TWO))

    def test_products(self):
        for stock, exponents, expected in [
            ((DIAGONAL, TWO), (2, -1), TURN), ((TWO,), (0,), ONE), ((TWO,), (-3,), (1, 0, 8)), ((TWO,), (60,), (2 ** 60, 0, 1)),
            ((TURN,), (-60,), ONE), ((TURN,), (59,), (0, -1, 1)), (((2, 1, 3), HALF), (1, -1), (4, 2, 3)),
            (((3, 4, 5),), (-1,), (3, -4, 5)),
        ]:
            self.same_by_name(product_of_powers, {"stock": stock, "exponents": exponents}, expected)
        samples = Samples(220)
        for _ in range(100):
            stock = tuple(samples.choice(SMALL) for _ in range(samples.choice((1, 2, 4, 6))))
            exponents = tuple(samples.whole(samples.choice((2, 60))) for _ in stock)
            self.same_by_name(product_of_powers, {"stock": stock, "exponents": exponents}, product(stock, exponents))

    def test_told_exponents_and_scales(self):
        samples = Samples(221)
        found = []
        for _ in range(600):
            stock = tuple(samples.choice(SMALL) for _ in range(samples.choice((1, 2, 3, 4, 6))))
            is_product = samples.whole() > 0
            ratio = product(stock, [samples.whole(5) for _ in stock]) if is_product else samples.choice(SMALL)
            exponents, scale = exponents_for(stock=stock, ratio=ratio), scale_for(stock, ratio)
            self.same_by_name(is_made, {"stock": stock, "ratio": ratio}, exponents is not None)
            self.assertEqual(exponents is None, scale is not None)
            if exponents is not None:
                self.assertEqual((exponents.__class__, len(exponents)), (tuple, len(stock)))
                self.assertEqual(product(stock, exponents), ratio)
            else:
                self.assertFalse(is_product)
                self.check_scale(stock, ratio, scale)
            found.append(exponents is None)
        self.assertGreater(min(found.count(True), found.count(False)), 150)

    def test_products_of_small_powers(self):
        samples = Samples(228)
        found = []
        for _ in range(150):
            stock = [self.sample_product(samples) for _ in range(samples.choice((2, 3, 4)))]
            stock = tuple(ratio for ratio in stock if ratio != ONE) or (TWO,)
            ratio = self.sample_product(samples)
            for one in (ratio, product_of(power(ratio, 4), stock[0])):
                exponents, scale = exponents_for(stock, one), scale_for(stock, one)
                self.assertEqual(exponents is None, scale is not None)
                if exponents is None:
                    self.check_scale(stock, one, scale)
                else:
                    self.assertEqual(product(stock, exponents), one)
                found.append(exponents is None)
        self.assertGreater(min(found.count(True), found.count(False)), 20)

    def sample_product(self, samples):
        """A product of powers of few numbers, so that a stock of these makes some of them."""
        return product((TURN, (1, 1, 1), (2, 1, 1), THREE), [samples.whole(3) for _ in range(4)])

    def test_small_products_are_found(self):
        samples = Samples(222)
        for _ in range(40):
            stock = tuple(samples.choice(SMALL) for _ in range(2))
            made = {product(stock, exponents) for exponents in itertools.product(range(-4, 5), repeat=2)}
            for ratio in SMALL + [ONE]:
                if ratio in made:
                    self.assertIs(is_made(stock, ratio), True)
                if not is_made(stock, ratio):
                    self.assertNotIn(ratio, made)

    def test_great_exponents(self):
        for stock, ratio in [((TWO,), (2 ** 130, 0, 1)), ((TWO,), (1, 0, 2 ** 130)), ((DIAGONAL,), (2 ** 64, 0, 1)),
                             (((2 ** 7, 0, 1), (2 ** 5, 0, 1)), (2 ** 1000, 0, 1)), (((3, 4, 5),), power((3, 4, 5), -100))]:
            exponents = exponents_for(stock, ratio)
            self.assertGreater(max(abs(many) for many in exponents), 60)
            self.assertEqual(product(stock, exponents), ratio)
            self.assertIs(self.raised(InvalidExponents, product_of_powers, stock, exponents).given, exponents)
        stock = ((BIG, 3, 10 ** 38 + 9), (2 ** 100, 0, 3 ** 60), (5 ** 40, 0, 7 ** 30))
        self.assertEqual(exponents_for(stock, product(stock, (17, -30, 44))), (17, -30, 44))
        # What is returned may be passed, however great its numbers are.
        great = product_of_powers(stock, (60, -60, 60))
        self.assertEqual(exponents_for(stock, great), (60, -60, 60))
        self.check_scale(stock, product_of(great, TURN), scale_for(stock, product_of(great, TURN)))


class Stocks(StockCase):
    def test_beside_stocks(self):
        for stock, other, expected in [
            (((8, 0, 1), (4, 0, 1)), (TWO,), True), ((TWO,), ((8, 0, 1), TURN), False), ((TWO,), ((8, 0, 1), HALF), True),
            ((DIAGONAL, TURN), (TWO, TURN, (0, -2, 1)), True), ((TWO, TURN), (DIAGONAL,), False), ((BACK,), (BACK, BACK), True),
            ((THREE, TWO), ((6, 0, 1), (3, 0, 2)), True), (((6, 0, 1), (3, 0, 2)), (THREE, TWO), False),
        ]:
            self.same_by_name(makes_all, {"stock": stock, "other": other}, expected)
        samples = Samples(223)
        for _ in range(60):
            stock, other = [tuple(samples.choice(SMALL) for _ in range(samples.choice((1, 2, 4)))) for _ in range(2)]
            self.same_by_name(makes_all, {"stock": stock, "other": other}, all(is_made(stock, ratio) for ratio in other))

    def test_needed_ratios(self):
        for stock, expected in [
            ((TWO, (8, 0, 1), DIAGONAL), (0, 2)), ((TWO,), (0,)), ((TWO, TWO, TWO), (0,)), ((TWO, HALF), (0,)),
            (((8, 0, 1), TWO), (1,)),
            ((BACK, TURN), (1,)), ((TURN, BACK), (0,)), (((4, 0, 1), (6, 0, 1), (9, 0, 1)), (0, 1)),
            (((4, 0, 1), (6, 0, 1), THREE, TWO), (1, 2)),
            ((TWO, THREE, (6, 0, 1)), (0, 1)), (((6, 0, 1), THREE, TWO), (0, 1)),
        ]:
            self.same_by_name(needed_ratios, {"stock": stock}, expected)
        samples = Samples(224)
        for _ in range(80):
            stock = tuple(samples.choice(SMALL) for _ in range(samples.choice((1, 2, 3, 6))))
            left = list(range(len(stock)))
            for at in reversed(range(len(stock))):
                others = tuple(stock[index] for index in left if index != at)
                if others and is_made(others, stock[at]):
                    left.remove(at)
            self.same_by_name(needed_ratios, {"stock": stock}, tuple(left))
            self.assertIs(makes_all(tuple(stock[at] for at in left), stock), True)

    def test_independent(self):
        for stock, expected in [
            ((TWO, DIAGONAL, THREE, TURN), (0, 2)), ((TURN,), ()), ((BACK, TURN), ()), ((TURN, TWO), (1,)),
            ((TWO, (8, 0, 1)), (0,)),
            (((8, 0, 1), TWO), (0,)), (((6, 0, 1), (10, 0, 1), (15, 0, 1)), (0, 1, 2)), (((6, 0, 1), THREE, TWO), (0, 1)),
            (((2, 1, 1), (2, -1, 1), (5, 0, 1)), (0, 1)), (((3, 4, 5), (4, 3, 5)), (0,)),
            (((4, 0, 1), (6, 0, 1), (9, 0, 1)), (0, 1)),
            (((BIG, 0, 1), (BIG * BIG, 0, 1), (BIG, 0, 2)), (0, 2)),
        ]:
            self.same_by_name(independent, {"stock": stock}, expected)
        samples = Samples(225)
        for _ in range(60):
            stock = tuple(samples.choice(SMALL) for _ in range(samples.choice((1, 2, 3, 5))))
            told = independent(stock)
            for at, ratio in enumerate(stock):
                # A power that is made but for a unit shows it; of these ratios the twelfth is enough.
                before = stock[:at] + (TURN,)
                powers = [many for many in range(1, 13) if is_made(before, power(ratio, many))]
                self.assertEqual(at in told, powers == [])

    def test_sizes(self):
        for stock, size, expected in [
            (((2, 1, 1),), (5, 1), True), (((2, 1, 1), THREE), (45, 1), True), ((THREE,), (3, 1), False),
            ((THREE,), (9, 1), True),
            ((THREE,), (1, 9), True), ((TURN,), (1, 1), True), ((TURN,), (2, 1), False), ((DIAGONAL,), (2, 1), True),
            (((3, 4, 5),), (1, 1), True), (((3, 4, 5),), (25, 1), False), (((2, 1, 1), (1, 1, 1)), (1, 10), True),
            (((6, 0, 1), (10, 0, 1)), (9, 25), True), (((6, 0, 1), (10, 0, 1)), (9, 1), False), ((TWO,), (2 ** 200, 1), True),
            # Only by a product: 20 and 10 have the norm 4 between them.
            (((4, 2, 1), (3, 1, 1)), (2, 1), True), (((4, 2, 1), (3, 1, 1)), (5, 1), True),
            (((4, 2, 1), (3, 1, 1)), (3, 1), False),
            (((BIG, 1, 3),), ((BIG * BIG + 1) // gcd(BIG * BIG + 1, 9), 9 // gcd(BIG * BIG + 1, 9)), True),
        ]:
            self.same_by_name(is_size_made, {"stock": stock, "size": size}, expected)
        samples = Samples(226)
        for _ in range(50):
            stock = tuple(samples.choice(SMALL) for _ in range(samples.choice((1, 2))))
            sizes = set()
            for exponents in itertools.product(range(-3, 4), repeat=len(stock)):
                made = product(stock, exponents)
                size = Fraction(norm(made[:2]), made[2] ** 2)
                sizes.add((size.numerator, size.denominator))
            for size in sizes:
                self.same_by_name(is_size_made, {"stock": stock, "size": size}, True)
            for size in ((2, 1), (3, 1), (5, 1), (25, 1), (7, 1), (4, 9), (1, 2)):
                if not is_size_made(stock, size):
                    self.assertNotIn(size, sizes)


class Arms(StockCase):
    def test_told_ones(self):
        for stock, ratio, factors in [
            ((TWO,), ONE, ()), ((TWO,), TWO, (TWO,)), ((TWO,), HALF, (HALF,)), ((TWO,), (4, 0, 1), (TWO, TWO)),
            ((TWO,), (16, 0, 1), (TWO,) * 4),
            ((TURN,), BACK, (TURN, TURN)), ((BACK,), ONE, ()),
        ]:
            for pole in (ZERO, (1, 2, 3)):
                arm = tuple(("grow", pole, factor, RING) for factor in factors)
                self.same_by_name(stock_arm, {"stock": stock, "pole": pole, "ratio": ratio, "ring": RING}, arm)
        for stock, ratio in [((TWO,), (32, 0, 1)), ((TWO,), (1, 0, 32)), ((TWO,), THREE), ((DIAGONAL,), (0, 4, 1)),
            ((BACK,), TWO)]:
            self.same_by_name(stock_arm, {"stock": stock, "pole": ZERO, "ratio": ratio, "ring": RING}, None)

    def test_the_fewest_cells(self):
        samples = Samples(227)
        found = []
        for _ in range(60):
            stock = tuple(samples.choice(SMALL) for _ in range(samples.choice((1, 2, 3))))
            steps = sorted({one for ratio in stock for one in (ratio, quotient_of(ONE, ratio))})
            ratio = product(steps,
                [1 if samples.whole() > 4 else 0 for _ in steps]) if samples.whole() > 0 else samples.choice(SMALL)
            pole, ring = samples.ratio(), samples.ring()
            fewest = None
            for many in range(5):
                if fewest is None and any(product(steps, [taken.count(one) for one in steps]) == ratio
                                          for taken in itertools.combinations_with_replacement(steps, many)):
                    fewest = many
            for arm in (stock_arm(stock, pole, ratio, ring), stock_arm(stock=stock, pole=pole, ratio=ratio, ring=ring)):
                found.append(fewest)
                if fewest is None:
                    self.assertIsNone(arm)
                    continue
                self.assertTrue(is_arm(arm))
                self.assertEqual(len(arm), fewest)
                for cell in arm:
                    self.assertEqual((cell[0], cell[1], cell[3]), ("grow", pole, ring))
                    self.assertIn(cell[2], steps)
                self.assertEqual(product([cell[2] for cell in arm], [1] * fewest), ratio)
                chart = arm_map(arm)
                for place in PLACES[1:6]:
                    apart = tuple(quotient_of(product_of(ratio, difference(place, pole)), ONE))
                    self.assertEqual(difference(led_place(chart, place), pole), apart)
        self.assertGreater(len(set(found)), 3)

    def test_six_ratios_and_four_cells(self):
        stock = SEVEN[:6]
        ratio = product(stock, (1, 1, 1, 0, 1, 0))
        arm = stock_arm(stock, (5, -1, 2), ratio, RING)
        self.assertEqual((len(arm), led_place(arm_map(arm), (5, -1, 2))), (4, (5, -1, 2)))
        self.assertIsNone(stock_arm(stock, ZERO, product(stock, (1, 1, 1, 1, 1, 0)), RING))
        self.assertIs(is_made(stock, product(stock, (1, 1, 1, 1, 1, 0))), True)


def difference(place, other):
    return led_place(map_of(0, (other[2], 0), (-other[0], -other[1]), (0, 0), (other[2], 0)), place)


WRONG_FACTORS = WRONG_RATIOS + [ZERO]
WRONG_STOCKED = WRONG_FACTORS + [ONE]
WRONG_SIZES = WRONG_FRACTIONS + [FAR]


class WrongArguments(StockCase):
    def test_stocks(self):
        told = indexes_of_wrong(SEVEN, WRONG_STOCKED, 6) + [((), None), (SEVEN, 6), (SEVEN[:6] + (None,), 6), ((ONE,), 0),
            ((ZERO,), 0)]
        for function, more in [
            (product_of_powers, {"exponents": (1,)}), (is_made, {"ratio": TWO}), (exponents_for, {"ratio": TWO}),
            (scale_for, {"ratio": TWO}),
            (makes_all, {"other": (TWO,)}), (needed_ratios, {}), (independent, {}), (is_size_made, {"size": (5, 1)}),
            (stock_arm, {"pole": ZERO, "ratio": TWO, "ring": RING}),
        ]:
            self.check_indexes(InvalidStock, function, {"stock": (TWO,), **more}, "stock", told)
        self.check_indexes(InvalidStock, makes_all, {"stock": (TWO,), "other": (TWO,)}, "other", told)
        self.assertEqual(self.raised(InvalidStock, makes_all, (TWO, None), ()).index, 1)

    def test_ratios(self):
        stock = (InvalidStock, [])
        for function in (is_made, exponents_for, scale_for):
            for good in (TWO, TURN):
                self.check_all_given(function, {"stock": (TWO,), "ratio": good},
                    {"stock": stock, "ratio": (InvalidRatio, WRONG_FACTORS)})
        for good in (ONE, TWO, (32, 0, 1)):
            arguments = {"stock": (TWO,), "pole": ZERO, "ratio": good, "ring": RING}
            self.check_all_given(stock_arm, arguments, {"stock": stock, "pole": (InvalidRatio, WRONG_RATIOS),
                "ratio": (InvalidRatio, WRONG_FACTORS), "ring": (InvalidRing, WRONG_RINGS)})

    def test_sizes_and_exponents(self):
        stock = (InvalidStock, [])
        self.check_all_given(is_size_made, {"stock": (TWO,), "size": (4, 1)},
            {"stock": stock, "size": (InvalidSize, WRONG_SIZES)})
        wrong = ANYTHING + [
            (1,), (1, 2, 3), (), [1, 2], (1, True), (False, 1), (61, 0), (0, -61), (BIG, 0), (1, None), ("1", 2), ((1, 2),),
            (1, (2,)),
            {0: 1, 1: 2}, "ab", b"ab",
        ]
        self.check_all_given(product_of_powers, {"stock": (TWO, TURN), "exponents": (60, -60)},
            {"stock": stock, "exponents": (InvalidExponents, wrong)})
        self.assertEqual(self.raised(InvalidExponents, product_of_powers, (TWO,), (1, 1)).given, (1, 1))


if __name__ == "__main__":
    unittest.main()
