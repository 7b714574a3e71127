"""Promise [43], and [2] for the checker: what it accepts is so, whoever wrote it."""

import itertools
import unittest

from drawarms.checker import accepts
from drawarms.lots import Lot, both, either, rest
from tests.claimsamples import ALL_KINDS, DISC, FAR, FOUR, GROW, HOLDING, NINE, NOT_SHOWN, ONE, OUT, OVER, RAISED, SLIDE
from tests.claimsamples import STAYS, THREE, TURN, TURNABOUT, TWO, UNIT, UP, ZERO
from tests.claimwords import TRUTHS, changed, has_form, is_so, is_value_that_fits, misformed
from tests.support import ANYTHING, BIG, STUBBORN, WRONG_MAPS, WRONG_PLACES, WRONG_TREES, ArgumentCase

# Claims that are not so, or none at all, whatever the paper is.
NOT_SO = [
    ("one map", (GROW,), ()), ("two maps", (), ()), ("two maps", (GROW, ("grow", ZERO, (1, 0, 2), ((1, 1), (9, 1)))), ()),
    ("return", SLIDE, 1), ("return", STAYS, 2),
    ("return", STAYS, 0), ("return", SLIDE, None), ("no return", STAYS), ("none", ("all",)), ("none", DISC),
    ("none", ("rim", (1, 0, 0, -3))), ("some", ("not", ("all",))),
    ("some", ("and", (("rim", UNIT), ("rim", (0, 1, 0, -2))))),
    # At the far place alone.
    ("none", ("and", (("rim", (0, 1, 0, 0)), ("rim", (0, 1, 0, -1))))),
    ("inside", ("rim", (0, 1, 0, 0)), ("not", ("rim", (0, 1, 0, -1)))),
    ("inside", OUT, DISC), ("inside", ("all",), OUT), ("outside", DISC, ("all",)), ("outside", DISC, DISC),
    ("keeps", SLIDE, UNIT, 1), ("keeps", STAYS, UNIT, -1),
    ("keeps", STAYS, UNIT, 0), ("keeps", STAYS, UNIT, 2), ("closes", UNIT, (1, 0, 0, -9), 3), ("closes", UNIT, (1, 0, 0, -9), 12),
    ("closes", UNIT, (1, 0, 0, -4), None),
    ("closes", UNIT, (1, 0, 0, -4), 5), ("never closes", UNIT, (1, 0, 0, -9)), ("never closes", UNIT, UNIT),
    ("never closes", UNIT, (0, 1, 0, 0)),
    ("never closes", UNIT, (0, 1, 0, -1)), ("closes", UNIT, UNIT, 3), ("fits", THREE, STAYS),
    ("fits", FOUR, (1, (1, 0), (1, 0), (0, 0), (1, 0))), ("no map", THREE, 0),
    ("no map", FOUR, 0), ("no map", (), 1), ("no map", FOUR, None), ("settled", THREE, 0, ONE, ONE),
    ("settled", THREE, None, TURN, (1, 1, 1)),
    ("settled", THREE[:2], 0, FAR, FAR), ("open", THREE, 0, TURN), ("open", FOUR, None, TURN), ("open", THREE, None, (5, 0, 1)),
    ("made", (TWO,), (3, 0, 1)),
    ("made", (TWO,), ZERO), ("not made", (TWO,), ZERO), ("not made", (TWO,), ONE), ("not made", (TWO,), (4, 0, 1)),
    ("not made", (TWO, ONE), (3, 0, 1)),
    ("not made", (), TWO), ("made", (), ONE), ("not made", (TWO,), FAR), ("fewest", SLIDE, ALL_KINDS, 2),
    ("fewest", SLIDE, (), None), ("fewest", SLIDE, ("grow",), 1),
    ("not of", SLIDE, ("grow",)), ("not of", STAYS, ()), ("not of", SLIDE, ("grow", "grow")),
    ("mended", (TURNABOUT,), 0, "pole", (((5, 0, 1), (5, 0, 1)),)),
    ("mended", (TURNABOUT,), 0, "pole", ((ZERO, TWO),)), ("on", (TURNABOUT,), 0, "pole", (((5, 0, 1), (5, 0, 1)),),
    (1, -10, 0, 22)),
    ("on", (TURNABOUT,), 0, "pole", ((ZERO, TWO),), UNIT), ("on", (GROW,), 0, "pole", (), UNIT),
    ("not there", (GROW,), 0, "pole", ()),
    ("not there", (TURNABOUT,), 0, "pole", (((5, 0, 1), (5, 0, 1)),)), ("not there", (GROW,), 1, "pole", ((ZERO, FAR),)),
    ("not there", (GROW,), -1, "pole", ((ZERO, FAR),)),
    ("not there", (GROW,), 0, "power", ((ZERO, FAR),)), ("none", ("and", (("not", ("all",)), NINE, ("side", (1, 0, 0, -9))))),
    ("some", ("or", (NINE, ("side", (0, 1, 0, 0))))),
    ("inside", NINE, ("or", (("all",), ("side", (0, 1, 0, 0))))), ("outside", ("all",), ("and", (NINE, ("rim", (0, 1, 0, 0))))),
    ("none", ("and", (("not", ("all",)),) * 9)), ("none", ("and", ())), ("some", ("or", ())), ("no tree", DISC),
    ("NONE", ("not", ("all",))), ("none",), (),
    ("settled", FOUR * 2 + THREE, 0, ONE, TWO), ("fits", FOUR * 2 + THREE[:1], SLIDE), ("open", THREE, 2, TURN),
    ("open", THREE, -1, TURN),
]
PAPERS = [(), (0,), (1,), (-1,), (1, 1), (0, 0), (1, -1), ZERO, ONE, FAR, STAYS, SLIDE, ("crossed", 0, 1), ("other", 0, 1, 2, 3),
    (SLIDE, (0,)), (SLIDE, (0, 1, 2)),
          (SLIDE, (0, 1, 2, 3)), (SLIDE, STAYS), (STAYS, SLIDE), ((), (), 1, 2), (((2, 0),), (1,), 0, 2),
          (((2, 0), (3, 0)), (0, 1), 0, 2), (GROW,), (("carry", ONE),), None,
          (1, 0, 0, 0, 0, 0, 0, 0), (1,) * 8, (1,) * 9, (1, 2)]


class CheckerCase(ArgumentCase):
    def says(self, claim, paper, expected):
        for told in (accepts(claim, paper), accepts(claim=claim, paper=paper)):
            self.assertIs(told, expected, (claim, paper))


class Accepted(CheckerCase):
    def test_told_ones(self):
        for claim, paper in HOLDING:
            self.assertTrue(is_so(claim), claim)
            self.says(claim, paper, True)
        self.assertEqual({claim[0] for claim, _ in HOLDING}, set(TRUTHS))

    def test_papers_that_do_not_show_it(self):
        for claim, paper in NOT_SHOWN:
            self.assertTrue(is_so(claim), claim)
            self.says(claim, paper, False)

    def test_claims_that_are_not_so(self):
        for claim in NOT_SO:
            self.assertFalse(is_so(claim), claim)
            for paper in PAPERS:
                self.says(claim, paper, False)

    def test_papers_that_fit_what_is_not_so(self):
        on_circle = ("mended", (TURNABOUT,), 0, "pole", (((5, 0, 1), (5, 0, 1)),))
        for claim, paper in [
            (on_circle, (3, 0, 1)), (on_circle, (7, 0, 1)), (("settled", RAISED, None, (5, 1, 1), (5, 2, 1)), (UP, (0, 1, 2))),
            (("settled", THREE, None, TURN, (1, 1, 1)), (SLIDE, (0, 1, 2))), (("open", THREE, 0, TURN), (SLIDE, OVER)),
        ]:
            self.assertFalse(is_so(claim))
            self.says(claim, paper, False)

    def test_papers_of_other_claims(self):
        for claim, _ in HOLDING:
            for paper in PAPERS + [paper for _, paper in HOLDING]:
                told = accepts(claim, paper)
                self.assertIs(told.__class__, bool)
                if claim[0] == "mended":
                    self.assertEqual(told, is_value_that_fits(claim, paper))
                if claim[0] in ("one map", "return", "no return", "none", "inside", "keeps", "closes", "never closes", "fits",
                    "not of", "on", "not there"):
                    self.assertEqual(told, paper == ())

    def test_of_two_claims_that_exclude_one_another_one_is_accepted_at_most(self):
        others = {"one map": "two maps", "none": "some", "inside": "outside", "made": "not made", "no map": "fits",
            "fewest": "not of", "closes": "never closes",
                  "return": "no return", "settled": "open"}
        others.update({other: word for word, other in others.items()})
        for claim, own in HOLDING:
            for other in self.opposites(claim, others.get(claim[0])):
                for paper in PAPERS + [own] + [paper for _, paper in HOLDING]:
                    self.says(other, paper, False)

    def opposites(self, claim, word):
        if claim[0] in ("return", "closes", "fewest", "settled", "keeps"):
            yield from [claim[:-1] + (other,) for other in (0, 1, 2, 3, 4, 6, -1, ZERO, FAR, None) if other != claim[-1]]
        if claim[0] in ("mended", "on", "not there"):
            yield from [(other,) + claim[1:5] for other in ("mended", "not there") if other != claim[0]]
            if claim[0] != "on":
                yield ("on",) + claim[1:] + (UNIT,)
        elif claim[0] == "fits":
            yield ("no map", claim[1], claim[2][0])
        elif claim[0] == "no map":
            yield from [("fits", claim[1], chart) for chart in (STAYS, SLIDE) if chart[0] == claim[2]]
        elif claim[0] in ("return", "closes", "fewest", "settled"):
            yield (word,) + claim[1:4 if claim[0] == "settled" else -1]
        elif word in ("return", "closes", "fewest"):
            yield from [(word,) + claim[1:] + (many,) for many in range(7)]
        elif claim[0] == "open":
            yield from [(word,) + claim[1:] + (goal,) for goal in (ZERO, ONE, TWO, FAR, TURN)]
        elif word:
            yield (word,) + claim[1:]


class Spoilt(CheckerCase):
    def test_other_forms(self):
        for claim, paper in HOLDING:
            if len(repr(claim)) > 400:
                continue
            for spoilt in misformed(claim):
                self.assertIs(accepts(spoilt, paper), False, (spoilt, paper))
            for spoilt in misformed(paper):
                self.assertIs(accepts(claim, spoilt), False, (claim, spoilt))

    def test_one_thing_changed(self):
        accepted = refused = 0
        for claim, paper in HOLDING:
            if len(repr(claim)) > 400:
                continue
            for spoilt in changed(claim):
                told = accepts(spoilt, paper)
                self.assertIs(told.__class__, bool)
                if told:
                    self.assertTrue(is_so(spoilt), (spoilt, paper))
                accepted, refused = accepted + told, refused + (not told)
                if not has_form(spoilt):
                    self.assertIs(told, False)
            for spoilt in changed(paper):
                told = accepts(claim, spoilt)
                self.assertIs(told.__class__, bool)
                if claim[0] == "mended":
                    self.assertEqual(told, is_value_that_fits(claim, spoilt))
        self.assertGreater(accepted, 500)
        self.assertGreater(refused, 5000)

    def test_whatever_both_are(self):
        for value in ANYTHING + WRONG_MAPS[:40] + WRONG_PLACES[:40] + WRONG_TREES:
            self.says(value, value, False)
            for claim, paper in HOLDING:
                self.says(value, paper, False)
                if claim[0] != "mended":
                    self.assertIs(accepts(claim, value).__class__, bool)
        for word in TRUTHS:
            for many in range(8):
                for part in ANYTHING:
                    is_two_empty_arms = word == "one map" and many == 2 and isinstance(part, tuple) and len(part) == 0
                    self.says((word,) + (part,) * many, (), is_two_empty_arms)

    def test_stubborn_parts(self):
        for claim, paper in HOLDING:
            for at in range(len(claim)):
                self.says(claim[:at] + (STUBBORN,) + claim[at + 1:], paper, False)
            self.says(claim, STUBBORN, False)
            for at in range(len(paper)):
                self.says(claim, paper[:at] + (STUBBORN,) + paper[at + 1:], False)


class Trees(CheckerCase):
    def test_very_deep_ones(self):
        lot, other = Lot(DISC), Lot(("side", (0, 1, 0, 0)))
        for _ in range(700):
            lot = rest(both(lot, other))
            lot = either(lot, other) if len(repr(lot.rounds)) % 2 else lot
        tree = lot.tree
        told = [accepts(("none", tree), ()), accepts(("inside", tree, ("all",)), ()), accepts(("outside", tree, tree), (1, 1))]
        self.assertEqual(told, [False, True, False])
        self.assertEqual(sum(accepts(("some", tree), signs) for signs in itertools.product((-1, 0, 1), repeat=2)) > 0, True)
        long = ("all",)
        for _ in range(30000):
            long = ("not", long)
        self.says_of_long(long)

    def says_of_long(self, tree):
        self.assertIs(accepts(("some", tree), ()), True)
        self.assertIs(accepts(("none", tree), ()), False)
        self.assertIs(accepts(("none", ("not", tree)), ()), True)
        self.assertIs(accepts(("none", ("not", ("not", ("and", (tree, tree, [])))),), ()), False)

    def test_rounds_are_counted_together(self):
        ninth = ("side", (0, 1, 0, 0))
        self.says(("inside", NINE, NINE), (), True)
        self.says(("inside", NINE, ("and", (NINE, ("or", (("all",), ninth))))), (), False)
        self.says(("outside", ("all",), ("not", ("or", (NINE, ("not", NINE))))), (1,) * 8, True)
        self.says(("none", ("and", (NINE, ("not", NINE)))), (), True)
        self.says(("none", ("and", (NINE, ("not", NINE), ninth))), (), False)

    def test_signs_for_the_rounds_of_both(self):
        # The rounds with the radii 2 and 1 stand in this order; a place on or outside the first one is outside the second one.
        tree = ("and", (("or", (("side", UNIT), ("rim", (1, 0, 0, -4)))), ("all",)))
        for signs in itertools.product((-1, 0, 1), repeat=2):
            self.says(("some", tree), signs, signs in ((-1, 0), (-1, 1), (0, 1), (1, 1)))
        self.says(("some", DISC), (BIG,), False)
        self.says(("some", DISC), (True,), False)
        self.says(("some", OUT), (True,), False)
        self.says(("some", OUT), (1,), True)


if __name__ == "__main__":
    unittest.main()
