"""Promises [43] and [2]: the claims and papers that the package makes, which the checker accepts."""

import unittest

from drawarms.arms import arm_map
from drawarms.certificates import certify_cells, certify_chain, certify_inside, certify_lot, certify_maps
from drawarms.certificates import certify_part, certify_place
from drawarms.certificates import certify_ratio, certify_return, certify_round, certify_tests
from drawarms.checker import accepts
from drawarms.errors import InvalidArm, InvalidHand, InvalidIndex, InvalidKinds, InvalidMap, InvalidPart, InvalidPlace
from drawarms.errors import InvalidRatio, InvalidRing
from drawarms.errors import InvalidRound, InvalidStock, InvalidTests, Meets, NoMapFits, NotALot, Same, TooMany
from drawarms.fewest import fewest_cells
from drawarms.kinds import power_of, return_of
from drawarms.lots import Lot, both, either, less, rest
from drawarms.maps import led_place, led_round
from drawarms.pencils import keeps_round
from drawarms.pins import values_that_fit
from drawarms.places import product_of
from drawarms.readback import bar, fitting, fits
from drawarms.stock import exponents_for
from tests.claimsamples import CARRY, CROSSED, DISC, FLIP, FOUR, GROW, HALF, LINE, NINE, NOT_FITTED, OUT, OVER, PAIR
from tests.claimsamples import REAL, SEEN, SLIDE, SPIN
from tests.claimsamples import THREE, TURNABOUT, UNIT, ZERO, broad, deep
from tests.claimwords import has_form, is_so
from tests.lotsamples import rich_lots, sample_lots
from tests.support import ANYTHING, BIG, FAR, PLACES, RING, ROUNDS, STAYS, WRONG_BOTH_HANDS, WRONG_CELLS, WRONG_LOTS
from tests.support import WRONG_MAPS, WRONG_ONE_HANDS
from tests.support import WRONG_PLACES, WRONG_RINGS, WRONG_ROUNDS, WRONG_WORDS, ArgumentCase, Samples
from tests.support import indexes_of_wrong
from tests.test_chains import ALL as CHAINS
from tests.test_chains import moved
from tests.test_fewest import CHOICES, SHARP, WORDS, sample_maps
from tests.test_pens import FIVE
from tests.test_pins import WRONG_PARTS, all_parts, bits_of, some_values, with_value
from tests.test_readback import NINE as NINE_TESTS
from tests.test_readback import WRONG_TESTS, sample_tests
from tests.test_stock import SEVEN, SMALL, WRONG_FACTORS, WRONG_STOCKED

ONE, TWO = (1, 0, 1), (2, 0, 1)


class CertificateCase(ArgumentCase):
    def certified(self, function, arguments, expected=None):
        """The claim and the paper, by position and by name; the claim is so, and the checker accepts it."""
        for told in (function(*arguments.values()), function(**arguments)):
            self.assertEqual((told.__class__, len(told)), (tuple, 2))
            claim, paper = told
            self.assertTrue(has_form(claim) and is_so(claim), claim)
            self.assertIs(accepts(claim, paper), True, (claim, paper))
            self.assertIs(accepts(claim=claim, paper=paper), True)
            if expected is not None:
                self.assertEqual(claim, expected)
        return claim, paper


class Maps(CertificateCase):
    def test_told_ones(self):
        for arm, other, word in [((GROW, HALF), (), "one map"), ((), (), "one map"), ((GROW,), (), "two maps"),
            ((LINE,), (), "two maps"),
                                 ((("mirror", (0, 0, 1, 0)),), (), "two maps"), ((TURNABOUT,), (LINE,), "two maps")]:
            self.certified(certify_maps, {"arm": arm, "other": other}, (word, arm, other))
        # These agree at the far place, 0 and 1.
        self.assertEqual(certify_maps((("mirror", (0, 0, 1, 0)),), ())[1], (0, 1, 1))

    def test_samples(self):
        samples = Samples(270)
        for _ in range(60):
            arm = samples.arm()
            other = arm if samples.whole() > 4 else samples.arm()
            word = "one map" if arm_map(arm) == arm_map(other) else "two maps"
            claim, _ = self.certified(certify_maps, {"arm": arm, "other": other}, (word, arm, other))
            self.assertTrue(claim[1] is arm and claim[2] is other)

    def test_returns_and_rounds(self):
        samples = Samples(271)
        for chart in [STAYS, SLIDE, SPIN, FLIP, OVER] + SHARP + [samples.chart(2) for _ in range(40)]:
            many = return_of(chart)
            expected = ("no return", chart) if many is None else ("return", chart, many)
            self.assertEqual(self.certified(certify_return, {"chart": chart}, expected)[1], ())
            for circle in ROUNDS[:8] + [samples.circle(3)]:
                way = keeps_round(chart, circle)
                told = self.certified(certify_round, {"chart": chart, "circle": circle}, ("keeps", chart, circle, way))
                self.assertEqual((told[1], sum(accepts(("keeps", chart, circle, one), ()) for one in (-1, 0, 1))), ((), 1))

    def test_chains(self):
        samples = Samples(272)
        for rounds, many in zip(CHAINS * 4, (3, 4, 6, None, None) * 4):
            circle, other, _ = moved(samples, rounds)
            expected = ("never closes", circle, other) if many is None else ("closes", circle, other, many)
            self.assertEqual(self.certified(certify_chain, {"circle": circle, "other": other}, expected)[1], ())


class Lots(CertificateCase):
    def test_told_ones(self):
        nowhere = ("and", (DISC, OUT, ("not", ("rim", UNIT))))
        for tree, word in [(("all",), "some"), (DISC, "some"), (nowhere, "none"), (("rim", (1, 0, 0, -3)), "some"),
            (("not", ("all",)), "none")]:
            self.certified(certify_lot, {"lot": Lot(tree)}, (word, tree))
        for tree, other, word in [(DISC, ("side", (-1, 0, 0, 4)), "inside"), (OUT, DISC, "outside"), (nowhere, DISC, "inside"),
            (("all",), DISC, "outside")]:
            self.certified(certify_inside, {"lot": Lot(tree), "other": Lot(other)}, (word, tree, other))

    def test_samples(self):
        found = []
        lots = rich_lots(273, 40, 4)
        for lot, other in zip(lots, lots[1:]):
            for one in (lot, both(lot, rest(lot)), less(other, either(other, lot)), both(lot, other)):
                claim, paper = self.certified(certify_lot, {"lot": one})
                self.assertIs(claim[1], one.tree)
                found.append(claim[0])
                self.assertFalse(accepts(("none" if claim[0] == "some" else "some", one.tree), paper))
            for one, two in ((lot, other), (both(lot, other), lot), (lot, either(other, lot))):
                claim, paper = self.certified(certify_inside, {"lot": one, "other": two})
                self.assertTrue(claim[1] is one.tree and claim[2] is two.tree)
                found.append(claim[0])
                self.assertFalse(accepts(("inside" if claim[0] == "outside" else "outside",) + claim[1:], paper))
        self.assertGreater(min(found.count(word) for word in ("none", "some", "inside", "outside")), 15)

    def test_deep_and_broad_trees(self):
        lot, more = Lot(DISC), sample_lots(274, 1)[0]
        for _ in range(400):
            lot = rest(less(lot, Lot(("not", ("all",)))))
        self.assertIs(accepts(*certify_lot(lot)), True)
        self.assertIs(accepts(*certify_inside(lot, both(lot, lot))), True)
        self.assertIs(accepts(*certify_inside(both(lot, rest(lot)), more)), True)
        wide = Lot(("or", (DISC, OUT) * 4))
        for _ in range(3):
            wide = both(wide, either(wide, more))
        self.assertIs(accepts(*certify_lot(wide)), True)
        self.assertIs(accepts(*certify_lot(Lot(NINE))), True)
        # Claims may have greater trees than lots that are made of trees.
        self.assertIs(accepts(("some", broad(deep(DISC, 9))), (-1,)), True)


class Readback(CertificateCase):
    def test_tests(self):
        samples = Samples(275)
        for tests in [(), THREE, FOUR, CROSSED, NOT_FITTED, REAL] + [sample_tests(samples,
            samples.choice((1, 3, 4, 8))) for _ in range(50)]:
            for hand in (0, 1):
                chart = fitting(tests, hand)
                expected = ("no map", tests, hand) if chart is None else ("fits", tests, chart)
                claim, paper = self.certified(certify_tests, {"tests": tests, "hand": hand}, expected)
                self.assertIs(claim[1], tests)
                self.assertEqual(paper, () if chart else bar(tests, hand))

    def test_places(self):
        samples = Samples(276)
        found = []
        cases = [(), THREE[:1], THREE[:2], THREE, FOUR, REAL, THREE[:2] * 4, REAL + FOUR[3:], FOUR[3:] * 2 + REAL, THREE[:1] * 8]
        for tests in cases + [sample_tests(samples, samples.choice((0, 1, 2, 3, 4, 8))) for _ in range(50)]:
            for hand in (0, 1, None):
                if fitting(tests, hand) is None:
                    self.raised(NoMapFits, certify_place, tests, hand, FAR)
                    continue
                for place in [FAR, ZERO, ONE, (5, 0, 1), (0, 1, 1), (3, 4, 5)] + [test[0] for test in tests][:2]:
                    claim, paper = self.certified(certify_place, {"tests": tests, "hand": hand, "place": place})
                    self.assertEqual(claim[1:4], (tests, hand, place))
                    found.append((claim[0], hand, len(paper[1]) if claim[0] == "settled" else 0))
        for word in [("open", 0, 0), ("open", 1, 0), ("open", None, 0), ("settled", None, 1), ("settled", None, 3),
            ("settled", None, 4), ("settled", 1, 3)]:
            self.assertGreater(found.count(word), 5)


class Makings(CertificateCase):
    def test_ratios(self):
        samples = Samples(277)
        for _ in range(150):
            stock = tuple(samples.choice(SMALL) for _ in range(samples.choice((1, 2, 3, 6))))
            ratio = samples.choice(SMALL)
            for one in (ratio, product_of(ratio, stock[0])):
                claim, paper = self.certified(certify_ratio, {"stock": stock, "ratio": one})
                self.assertEqual(claim, ("not made" if exponents_for(stock, one) is None else "made", stock, one))
        self.certified(certify_ratio, {"stock": (TWO,), "ratio": (2 ** 300, 0, 1)}, ("made", (TWO,), (2 ** 300, 0, 1)))
        self.certified(certify_ratio, {"stock": ((BIG, 0, 1),), "ratio": TWO}, ("not made", ((BIG, 0, 1),), TWO))

    def test_cells(self):
        samples = Samples(278)
        for chart in SHARP + list(sample_maps(279, 8)):
            for kinds in CHOICES:
                many = fewest_cells(chart, kinds)
                expected = ("not of", chart, kinds) if many is None else ("fewest", chart, kinds, many)
                _, paper = self.certified(certify_cells, {"chart": chart, "kinds": kinds, "ring": RING}, expected)
                self.assertTrue(all(cell[3] == RING for cell in paper if len(cell) == 4))
        for _ in range(5):
            self.certified(certify_cells, {"chart": samples.chart(BIG), "kinds": WORDS, "ring": RING})

    def test_parts(self):
        samples = Samples(280)
        found = []
        cases = [(PAIR, SEEN), (PAIR, SEEN[:1]), (PAIR, ()), ((TURNABOUT,), (((5, 0, 1), (5, 0, 1)),)),
            ((TURNABOUT,), ((ZERO, TWO),)), ((LINE,), ((ONE, ONE),)),
                 ((LINE,), ((ONE, ZERO),)), ((TURNABOUT,), ((ZERO, FAR),)), ((CARRY,), ((FAR, FAR),)),
                 ((("turnabout", ZERO, (3, 1), RING),), ((ZERO, ZERO),)),
                 ((LINE,), ((FAR, FAR),)), ((GROW,), ((FAR, FAR),)), ((LINE,), (((3, 4, 5), (3, 4, 5)),))]
        while len(cases) < 60:
            arm = samples.arm()
            if arm:
                index, part = samples.choice(all_parts(arm))
                wrong = with_value(arm, index, part, samples.choice(some_values(samples, arm[index], part)))
                cases.append((wrong, bits_of(arm, samples, samples.choice((0, 1, 2, 3)))))
        for arm, tests in cases:
            for index, part in all_parts(arm):
                told = values_that_fit(arm, index, part, tests)
                word = "on" if told[0] == "on" else "not there" if told == ("values", ()) else "mended"
                expected = (word, arm, index, part, tests) + ((told[1],) if word == "on" else ())
                self.certified(certify_part, {"arm": arm, "index": index, "part": part, "tests": tests}, expected)
                found.append((word, told[0]))
        self.assertEqual({("mended", "any"), ("mended", "through"), ("mended", "values"), ("on", "on"), ("not there", "values")},
            set(found))

    def test_great_numbers(self):
        samples = Samples(281)
        chart = samples.chart(BIG)
        tests = tuple((place, led_place(chart, place)) for place in PLACES[:8])
        self.certified(certify_tests, {"tests": tests, "hand": chart[0]})
        self.certified(certify_tests, {"tests": tests, "hand": 1 - chart[0]})
        self.certified(certify_place, {"tests": tests, "hand": None, "place": PLACES[9]})
        self.certified(certify_return, {"chart": power_of(chart, 40)})
        circle = led_round(power_of(chart, 20), UNIT)
        self.certified(certify_round, {"chart": chart, "circle": circle})
        self.certified(certify_lot, {"lot": Lot(("and", (("side", circle), ("rim", UNIT))))})
        self.assertTrue(fits(chart, tests))


class WrongArguments(CertificateCase):
    def test_arms_and_maps(self):
        told = indexes_of_wrong(FIVE, WRONG_CELLS, 4)
        for name in ("arm", "other"):
            self.check_indexes(InvalidArm, certify_maps, {"arm": (), "other": ()}, name, told)
        self.assertEqual(self.raised(InvalidArm, certify_maps, (None,), None).index, 0)
        self.check_indexes(InvalidArm, certify_part, {"arm": (CARRY,), "index": 0, "part": "shift", "tests": ()}, "arm", told)
        chart, circle = (InvalidMap, WRONG_MAPS), (InvalidRound, WRONG_ROUNDS)
        self.check_all_given(certify_return, {"chart": STAYS}, {"chart": chart})
        self.check_all_given(certify_round, {"chart": STAYS, "circle": UNIT}, {"chart": chart, "circle": circle})
        self.check_all_given(certify_cells, {"chart": STAYS, "kinds": (), "ring": RING},
            {"chart": chart, "kinds": (InvalidKinds, []), "ring": (InvalidRing, WRONG_RINGS)})
        self.check_indexes(InvalidKinds, certify_cells, {"chart": SLIDE, "kinds": (), "ring": RING}, "kinds",
            indexes_of_wrong(WORDS + ("carry",), WRONG_WORDS, 4))

    def test_rounds(self):
        circle = (InvalidRound, WRONG_ROUNDS)
        self.check_all_given(certify_chain, {"circle": UNIT, "other": (1, 0, 0, -9)}, {"circle": circle, "other": circle})
        self.assertEqual(self.raised(Same, certify_chain, UNIT, UNIT).given, UNIT)
        for other in ((0, 1, 0, 0), (0, 1, 0, -1)):
            self.raised(Meets, certify_chain, UNIT, other)
            self.raised(Meets, certify_chain, circle=other, other=UNIT)

    def test_lots(self):
        lot = (NotALot, WRONG_LOTS)
        self.check_all_given(certify_lot, {"lot": Lot(DISC)}, {"lot": lot})
        self.check_all_given(certify_inside, {"lot": Lot(DISC), "other": Lot(OUT)}, {"lot": lot, "other": lot})
        self.assertEqual(self.raised(TooMany, certify_inside, Lot(NINE), Lot(("side", (0, 1, 0, 0)))).given, 9)
        self.assertEqual(self.raised(TooMany, certify_inside, lot=Lot(("side", (0, 1, 0, 0))), other=Lot(NINE)).given, 9)

    def test_tests(self):
        told = indexes_of_wrong(NINE_TESTS, WRONG_TESTS, 8)
        self.check_indexes(InvalidTests, certify_tests, {"tests": (), "hand": 0}, "tests", told)
        self.check_indexes(InvalidTests, certify_place, {"tests": (), "hand": 0, "place": FAR}, "tests", told)
        self.check_indexes(InvalidTests, certify_part, {"arm": (CARRY,), "index": 0, "part": "shift", "tests": ()}, "tests", told)
        tests = (InvalidTests, [])
        for good in (THREE, CROSSED):
            self.check_all_given(certify_tests, {"tests": good, "hand": 0},
                {"tests": tests, "hand": (InvalidHand, WRONG_ONE_HANDS)})
            self.check_all_given(certify_place, {"tests": good, "hand": None, "place": FAR},
                {"tests": tests, "hand": (InvalidHand, WRONG_BOTH_HANDS), "place": (InvalidPlace, WRONG_PLACES)})
        for good, hand in ((CROSSED, 0), (CROSSED, None), (FOUR, 1), (NOT_FITTED, None)):
            self.raised(NoMapFits, certify_place, good, hand, ZERO)
            self.raised(NoMapFits, certify_place, tests=good, hand=hand, place=FAR)

    def test_parts(self):
        wrong = [value for value in ANYTHING if value.__class__ is not int] + [-1, 1, BIG]
        self.check_all_given(certify_part, {"arm": (CARRY,), "index": 0, "part": "shift", "tests": ()},
            {"arm": (InvalidArm, []), "index": (InvalidIndex, wrong), "part": (InvalidPart, WRONG_PARTS + ["pole"]),
            "tests": (InvalidTests, [])})

    def test_stocks(self):
        told = indexes_of_wrong(SEVEN, WRONG_STOCKED, 6) + [((), None)]
        self.check_indexes(InvalidStock, certify_ratio, {"stock": (TWO,), "ratio": ONE}, "stock", told)
        self.check_all_given(certify_ratio, {"stock": (TWO,), "ratio": ONE},
            {"stock": (InvalidStock, []), "ratio": (InvalidRatio, WRONG_FACTORS)})


if __name__ == "__main__":
    unittest.main()
