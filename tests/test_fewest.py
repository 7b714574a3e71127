"""Promises [36] and [37], and [2] for cells: the fewest cells of some kinds that make a map."""

import itertools
import unittest
from math import isqrt

from drawarms.arms import arm_map, is_arm
from drawarms.errors import InvalidKinds, InvalidMap, InvalidRing
from drawarms.fewest import factor_of, fewest_cells, is_true, least_arm
from drawarms.kinds import kind_of, trace_ratio
from drawarms.maps import led_place, map_of
from tests.support import BIG, FAR, RING, STAYS, WRONG_MAPS, WRONG_RINGS, WRONG_WORDS, ArgumentCase, Samples, Value
from tests.support import indexes_of_wrong, quotient_place, value_of

WORDS = ("carry", "grow", "turnabout", "mirror")
CHOICES = [choice for many in range(5) for choice in itertools.combinations(WORDS, many)]
ALL, TURN, FLIP = WORDS, ("turnabout",), ("mirror",)
CARRY, GROW = ("carry",), ("grow",)


def plain(a, b, c, d):
    return map_of(0, a, b, c, d)


def mirrored(a, b, c, d):
    return map_of(1, a, b, c, d)


def told(chart):
    """G, H and E of a map that does not keep the far place, by the words."""
    a, b, c, d = map(value_of, chart[1:])
    source = Value(0) - d / c
    return a / c, source.conjugate() if chart[0] else source, (b * c - a * d) / (c * c)


def is_square(number):
    return isqrt(number) ** 2 == number


def is_true_by_words(chart):
    a, b, c, d = map(value_of, chart[1:])
    return is_square(int((a * d - b * c).norm()))


def keeps_far(chart):
    return led_place(chart, FAR) == FAR


def fewest_of_plain(chart, kinds):
    """Points 2 to 4 of [37]."""
    is_true_map = is_true_by_words(chart)
    if not keeps_far(chart):
        if is_true_map and trace_ratio(chart)[1] == 0:
            return 2
        if "grow" in kinds:
            return 3
        return (3 if "carry" in kinds else 4) if is_true_map else None
    factor = value_of(chart[1]) / value_of(chart[4])
    if factor == Value(1):
        if "carry" in kinds:
            return 1
        if "grow" in kinds or "mirror" in kinds:
            return 2
        return 4 if "turnabout" in kinds else None
    if "grow" in kinds:
        return 1
    if (factor.imaginary == 0 and "turnabout" in kinds) or (factor.norm() == 1 and "mirror" in kinds):
        return 2
    return 4 if is_true_map and "turnabout" in kinds else None


def fewest_of_mirrored(chart, kinds):
    """Points 5 and 6 of [37]."""
    is_true_map = is_true_by_words(chart)
    if not keeps_far(chart):
        goal, source, product = told(chart)
        if goal == source and product.imaginary == 0:
            return 1
        if "grow" in kinds or ("carry" in kinds and product.imaginary == 0):
            return 2
        return 3 if is_true_map else None
    factor = value_of(chart[1]) / value_of(chart[4])
    if "mirror" in kinds:
        if kind_of(chart) == "mirror":
            return 1
        if "grow" in kinds:
            return 2
        if factor.norm() == 1:
            return 2 if "carry" in kinds else 3
        return 3 if is_true_map and "turnabout" in kinds else None
    if "turnabout" not in kinds:
        return None
    if is_true_map:
        return 3
    return 4 if "grow" in kinds else None


def fewest_by_words(chart, kinds):
    if chart == STAYS:
        return 0
    if not keeps_far(chart) and "turnabout" not in kinds:
        return None
    return fewest_of_mirrored(chart, kinds) if chart[0] else fewest_of_plain(chart, kinds)


# Maps of each point of [37]: with each size and each part of the factor, of S and of E.
SHARP = [
    STAYS, plain((1, 0), (5, -3), (0, 0), (2, 0)), plain((1, 0), (BIG, 1), (0, 0), (3, 0)),
    plain((3, 0), (1, 1), (0, 0), (2, 0)), plain((-1, 0), (0, 0), (0, 0), (1, 0)), plain((-5, 0), (1, 7), (0, 0), (2, 0)),
    plain((0, 1), (1, 0), (0, 0), (1, 0)), plain((3, 4), (1, 0), (0, 0), (5, 0)), plain((3, -4), (0, 0), (0, 0), (1, 0)),
    plain((0, 2), (1, 0), (0, 0), (1, 0)), plain((2, 1), (1, 0), (0, 0), (1, 0)), plain((1, 1), (0, 0), (0, 0), (1, 0)),
    # S is 0, true and not, E above 0, below 0 and not real; S is 4, between, above, below 0; S is not real, true and not.
    plain((0, 0), (4, 0), (1, 0), (0, 0)), plain((0, 0), (1, 0), (1, 0), (0, 0)), plain((0, 0), (-3, 0), (1, 0), (0, 0)),
    plain((0, 0), (3, 4), (1, 0), (0, 0)), plain((1, 0), (0, 0), (2, 0), (-1, 0)), plain((0, 0), (2, 1), (1, 0), (0, 0)),
    plain((1, 1), (1, 0), (1, 0), (-1, -1)), plain((1, 0), (0, 0), (1, 0), (1, 0)), plain((1, 0), (1, 0), (-1, 0), (0, 0)),
    plain((0, 0), (-1, 0), (1, 0), (3, 0)), plain((0, 0), (1, 0), (1, 0), (3, 0)), plain((1, 0), (0, 1), (0, 1), (1, 0)),
    plain((1, 0), (0, 1), (0, 1), (0, 0)), plain((0, 0), (0, 1), (1, 0), (1, 0)), plain((0, 0), (3, 4), (1, 0), (1, 0)),
    plain((2, 1), (0, 0), (1, 0), (1, 0)), plain((0, 0), (1, 1), (1, 0), (1, 0)), plain((0, 0), (1, 0), (1, 0), (1, 1)),
    # Mirrors in lines, glides, factors of size 1, real, true and others.
    mirrored((1, 0), (0, 0), (0, 0), (1, 0)), mirrored((-1, 0), (3, 0), (0, 0), (1, 0)), mirrored((3, 4), (0, 0), (0, 0), (5, 0)),
    mirrored((1, 0), (1, 0), (0, 0), (1, 0)), mirrored((-1, 0), (0, 1), (0, 0), (1, 0)), mirrored((0, 1), (1, 0), (0, 0), (1, 0)),
    mirrored((2, 0), (0, 0), (0, 0), (1, 0)), mirrored((-2, 0), (1, 1), (0, 0), (1, 0)), mirrored((3, 4), (1, 0), (0, 0), (1, 0)),
    mirrored((0, -3), (1, 0), (0, 0), (1, 0)), mirrored((2, 1), (0, 0), (0, 0), (1, 0)), mirrored((1, 1), (1, 0), (0, 0), (1, 0)),
    # Circles about G and others; E real, of whole size, and not.
    mirrored((0, 0), (4, 0), (1, 0), (0, 0)), mirrored((0, 0), (-4, 0), (1, 0), (0, 0)), mirrored((0, 0), (1, 0), (1, 0), (0, 0)),
    mirrored((1, 0), (0, 0), (1, 0), (-1, 0)), mirrored((1, 0), (4, 0), (1, 0), (0, 0)), mirrored((1, 0), (1, 0), (1, 0), (0, 0)),
    mirrored((0, 1), (-3, 0), (1, 0), (2, 0)), mirrored((0, 0), (3, 4), (1, 0), (0, 0)), mirrored((0, 0), (0, 1), (1, 0), (0, 0)),
    mirrored((0, 0), (0, 1), (1, 0), (1, 0)), mirrored((0, 0), (3, 4), (1, 0), (2, 1)), mirrored((0, 0), (2, 1), (1, 0), (0, 0)),
    mirrored((0, 0), (2, 1), (1, 0), (1, 0)), mirrored((0, 0), (1, 1), (1, 0), (0, 1)),
]


def sample_maps(seed, many):
    """Maps of all sorts, among them those of arms with and without `grow`."""
    samples = Samples(seed)
    for _ in range(many):
        yield samples.chart(samples.choice((1, 2, 3, 6)))
        yield arm_map(samples.arm())
        yield arm_map(tuple(cell for cell in samples.arm() if cell[0] != "grow"))


class Counts(ArgumentCase):
    def test_told_ones(self):
        odd, even, slide = SHARP[17], SHARP[12], plain((1, 0), (1, 0), (0, 0), (1, 0))
        skew, large = mirrored((2, 1), (0, 0), (0, 0), (1, 0)), mirrored((2, 0), (0, 0), (0, 0), (1, 0))
        spin, wind = plain((0, 1), (0, 0), (0, 0), (1, 0)), plain((0, 2), (1, 0), (0, 0), (1, 0))
        for chart, kinds, expected in [
            (STAYS, (), 0), (STAYS, ALL, 0), (slide, (), None), (slide, CARRY, 1), (slide, GROW, 2), (slide, FLIP, 2),
            (slide, TURN, 4),
            (slide, ("turnabout", "mirror"), 2), (spin, GROW, 1), (spin, FLIP, 2), (spin, TURN, 4), (spin, CARRY, None),
            (wind, TURN, 4),
            (wind, FLIP, None), (wind, ("mirror", "turnabout", "carry"), 4), (plain((2, 1), (0, 0), (0, 0), (1, 0)), TURN, None),
            (plain((2, 0), (1, 0), (0, 0), (1, 0)), TURN, 2), (even, TURN, 2), (even, ("carry", "grow", "mirror"), None),
            (odd, ALL, 3), (odd, ("turnabout", "grow"), 3), (odd, ("turnabout", "mirror", "carry"), None),
            (SHARP[27], TURN, None),
            (SHARP[25], ("turnabout", "carry"), 3), (SHARP[25], TURN, 4), (SHARP[25], ("mirror", "turnabout"), 4),
            (large, ALL, 2), (large, TURN, 3), (large, ("turnabout", "mirror"), 3), (large, FLIP, None), (skew, TURN, None),
            (skew, ("turnabout", "grow"), 4), (skew, ("mirror", "grow"), 2), (SHARP[30], FLIP, 1), (SHARP[30], TURN, 3),
            (SHARP[33], FLIP, 3), (SHARP[33], ("carry", "mirror"), 2), (SHARP[42], TURN, 1), (SHARP[43], TURN, 1),
        ]:
            self.same_by_name(fewest_cells, {"chart": chart, "kinds": kinds}, expected)

    def test_each_point_with_each_choice(self):
        found = set()
        for chart in SHARP:
            for kinds in CHOICES:
                expected = fewest_by_words(chart, kinds)
                self.same_by_name(fewest_cells, {"chart": chart, "kinds": kinds}, expected)
                for turned in (kinds[::-1], kinds[1:] + kinds[:1]):
                    self.assertEqual(fewest_cells(chart, turned), expected)
                found.add((chart[0], keeps_far(chart), expected))
        self.assertEqual(len(found), 1 + 4 + 4 + 5 + 4)

    def test_samples(self):
        for chart in sample_maps(210, 60):
            for kinds in CHOICES:
                self.assertEqual(fewest_cells(chart, kinds), fewest_by_words(chart, kinds))

    def test_no_arm_of_fewer_cells(self):
        samples = Samples(211)
        small = [(p, s, r) for p in (-1, 0, 1, 2) for s in (-1, 0, 1) for r in (1, 2) if (p % r, s % r) != (0, 0) or r == 1]
        cells = [("carry", place) for place in small if place != (0, 0, 1)]
        cells += [("grow", pole, ratio, RING) for pole in small[:9:2] for ratio in ((2, 0, 1), (-1, 0, 1), (0, 1, 1), (1, 1, 1),
            (3, 4, 5))]
        cells += [("turnabout", pole, power, RING) for pole in small[:14] for power in ((1, 1), (-1, 1), (2, 1), (1, 2))]
        cells += [("mirror", line) for line in ((0, 1, 0, 0), (0, 0, 1, 0), (0, 1, 1, 0), (0, 1, 0, -1), (0, 2, 1, -1),
            (0, 1, -1, 1))]
        found = []
        for _ in range(4000):
            arm = tuple(samples.choice(cells) for _ in range(samples.choice((1, 2, 2, 3, 3, 4))))
            kinds = tuple(sorted({cell[0] for cell in arm}))
            least = fewest_cells(arm_map(arm), kinds)
            self.assertIsNotNone(least)
            self.assertLessEqual(least, len(arm))
            found.append(len(arm) - least)
        self.assertGreater(min(found.count(many) for many in (0, 1, 2)), 50)


class Arms(ArgumentCase):
    def check(self, chart, kinds, ring):
        for arm in (least_arm(chart, kinds, ring), least_arm(chart=chart, kinds=kinds, ring=ring)):
            many = fewest_cells(chart, kinds)
            if many is None:
                self.assertIsNone(arm)
            else:
                self.assertTrue(is_arm(arm))
                self.assertEqual((len(arm), arm_map(arm)), (many, chart))
                self.assertLessEqual({cell[0] for cell in arm}, set(kinds))
                self.assertLessEqual({cell[3] for cell in arm if len(cell) == 4}, {ring})

    def test_each_point_with_each_choice(self):
        for chart in SHARP:
            for kinds in CHOICES:
                self.check(chart, kinds, RING)

    def test_samples(self):
        samples = Samples(212)
        for chart in sample_maps(213, 40):
            for kinds in CHOICES:
                self.check(chart, kinds, samples.ring())

    def test_great_numbers(self):
        samples = Samples(214)
        for _ in range(20):
            chart = samples.chart(BIG)
            for kinds in CHOICES:
                self.check(chart, kinds, ((1, BIG), (BIG, 1)))
            arm = least_arm(chart, ALL, RING)
            for kinds in CHOICES[5:]:
                self.check(arm_map(arm[1:] + arm[:1]), kinds, RING)


class Facts(ArgumentCase):
    def test_told_ones(self):
        for chart, is_so, factor in [
            (STAYS, True, (1, 0, 1)), (SHARP[17], False, None), (SHARP[12], True, None),
            (mirrored((2, 1), (0, 0), (0, 0), (1, 0)), False, (2, 1, 1)),
            (plain((3, 4), (1, 0), (0, 0), (5, 0)), True, (3, 4, 5)), (mirrored((0, 0), (3, 4), (1, 0), (0, 0)), True, None),
            (plain((1, 0), (BIG, 1), (0, 0), (3, 0)), True, (1, 0, 3)), (plain((1, 1), (0, 0), (0, 0), (1, 0)), False, (1, 1, 1)),
        ]:
            self.same_by_name(is_true, {"chart": chart}, is_so)
            self.same_by_name(factor_of, {"chart": chart}, factor)

    def test_samples(self):
        for chart in itertools.chain(SHARP, sample_maps(215, 60)):
            self.same_by_name(is_true, {"chart": chart}, is_true_by_words(chart))
            factor = quotient_place(value_of(chart[1]), value_of(chart[4])) if keeps_far(chart) else None
            self.same_by_name(factor_of, {"chart": chart}, factor)

    def test_what_kinds_but_grow_make_is_true(self):
        samples = Samples(216)
        for _ in range(150):
            cells = tuple(cell for cell in samples.arm() if cell[0] != "grow")
            self.assertIs(is_true(arm_map(cells)), True)


class WrongArguments(ArgumentCase):
    def test_maps_and_rings(self):
        chart = (InvalidMap, WRONG_MAPS)
        for function in (is_true, factor_of):
            self.check_all_given(function, {"chart": STAYS}, {"chart": chart})
        self.check_all_given(fewest_cells, {"chart": STAYS, "kinds": ()}, {"chart": chart, "kinds": (InvalidKinds, [])})
        for good in (STAYS, SHARP[17], SHARP[1]):
            for kinds in ((), CARRY, ALL):
                self.check_all_given(least_arm, {"chart": good, "kinds": kinds, "ring": RING},
                    {"chart": chart, "kinds": (InvalidKinds, []), "ring": (InvalidRing, WRONG_RINGS)})

    def test_kinds(self):
        told_ones = indexes_of_wrong(WORDS + ("carry",), WRONG_WORDS, 4)
        told_ones += [(("carry", "carry"), 1), (("grow", "carry", "mirror", "carry"), 3), (("mirror", "mirror", None), 1),
            (WORDS * 2, 4),
                      ((None, "carry"), 0)]
        for chart in (STAYS, SHARP[17]):
            self.check_indexes(InvalidKinds, fewest_cells, {"chart": chart, "kinds": ()}, "kinds", told_ones)
            self.check_indexes(InvalidKinds, least_arm, {"chart": chart, "kinds": (), "ring": RING}, "kinds", told_ones)
        self.assertIsNone(self.raised(InvalidKinds, least_arm, STAYS, "carry", None).index)


if __name__ == "__main__":
    unittest.main()
