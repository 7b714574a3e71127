"""Promises [17] and [20], as far as drawarms.lots goes: trees, lots, which places they hold."""

import itertools
import unittest
from fractions import Fraction

from drawarms.errors import InvalidFraction, InvalidLot, InvalidPlace, InvalidRatio, InvalidRing, NotALot, TooMany
from drawarms.lots import Lot, both, disc_tree, either, holds, less, rest, ring_tree
from drawarms.rounds import round_of, side_of
from tests.lotsamples import ALL, EIGHT, NINE, RIM, sample_lots, tree_with
from tests.support import ANYTHING, BIG, FAR, PLACES, RING, ROUNDS, SIDE, WRONG_FRACTIONS, WRONG_PLACES, WRONG_RATIOS
from tests.support import WRONG_RINGS, WRONG_ROWS, WRONG_TREES, ArgumentCase, Contrary, Samples, chain_of_nots, round_of_circle, value_of


def holds_by_words(tree, place):
    word, *more = tree
    if word == "all":
        return True
    if word in ("side", "rim"):
        side = side_of(more[0], place)
        return side == 0 or (word == "side" and side > 0)
    if word == "not":
        return not holds_by_words(more[0], place)
    held = [holds_by_words(part, place) for part in more[0]]
    return all(held) if word == "and" else any(held)


class Making(ArgumentCase):
    def test_tree_and_rounds(self):
        for tree, rounds in [
            (ALL, ()), (SIDE, ((1, 0, 0, -1),)), (("side", (-1, 0, 0, 1)), ((1, 0, 0, -1),)), (RIM, ((0, 1, 0, 0),)),
            (("not", RIM), ((0, 1, 0, 0),)), (("and", (SIDE, RIM)), ((0, 1, 0, 0), (1, 0, 0, -1))),
            (("or", (SIDE, ("not", ("side", (-1, 0, 0, 1))), ALL)), ((1, 0, 0, -1),)),
        ]:
            for lot in (Lot(tree), Lot(tree=tree)):
                self.assertIs(lot.tree, tree)
                self.assertEqual(lot.rounds, rounds)
                self.assertIs(lot.rounds.__class__, tuple)

    def test_a_lot_is_equal_to_itself_alone(self):
        lot, again = Lot(SIDE), Lot(SIDE)
        self.assertTrue(lot == lot)
        self.assertFalse(lot != lot)
        for other in (again, SIDE, None, rest(rest(lot)), 0, "lot"):
            self.assertFalse(lot == other)
            self.assertTrue(lot != other)
        # Whatever the other one is, and whatever it says.
        for other in ANYTHING + [Contrary()]:
            self.assertIs(lot == other, False)
            self.assertIs(lot != other, True)
        self.assertEqual((lot.tree, lot.rounds), (again.tree, again.rounds))
        self.assertTrue(Lot(("not", ALL)))
        self.assertIs(bool(Lot(("and", (RIM, ("not", RIM))))), True)

    def test_wrong_trees(self):
        self.check_all_given(Lot, {"tree": SIDE}, {"tree": (InvalidLot, WRONG_TREES)})
        for row in WRONG_ROWS:
            for word in ("side", "rim"):
                tree = ("and", (ALL, ("not", (word, row))))
                self.assertIs(self.raised(InvalidLot, Lot, tree).given, tree)

    def test_wrong_parts_of_trees(self):
        for wrong in ANYTHING:
            for tree in [("not", wrong), ("and", (SIDE, wrong)), ("or", (wrong, SIDE)), ("not", ("or", (("and", (wrong,)), SIDE)))]:
                self.assertIs(self.raised(InvalidLot, Lot, tree).given, tree)

    def test_limit_of_depth(self):
        for leaf in (SIDE, RIM, ALL):
            self.assertEqual(Lot(chain_of_nots(6, leaf)).tree, chain_of_nots(6, leaf))
            self.check_given(InvalidLot, Lot, {"tree": ALL}, "tree", chain_of_nots(7, leaf))
        for word in ("and", "or"):
            tree = SIDE
            for _ in range(5):
                tree = (word, (ALL, tree))
            self.assertEqual(Lot(tree).rounds, ((1, 0, 0, -1),))
            self.check_given(InvalidLot, Lot, {"tree": ALL}, "tree", (word, (tree,)))
            self.check_given(InvalidLot, Lot, {"tree": ALL}, "tree", ("not", tree))

    def test_limit_of_sides_and_rims(self):
        three = ("and", (("or", (SIDE,) * 8), ("and", (RIM,) * 8), ("or", (SIDE, RIM) * 4)))
        self.assertEqual(Lot(three).rounds, ((0, 1, 0, 0), (1, 0, 0, -1)))
        for leaf in (SIDE, RIM):
            self.check_given(InvalidLot, Lot, {"tree": ALL}, "tree", ("and", three[1] + (leaf,)))
        self.assertEqual(len(Lot(("and", three[1] + (ALL, ("not", ALL), ALL, ALL, ALL))).rounds), 2)

    def test_limit_of_parts(self):
        self.assertEqual(Lot(("or", (SIDE,) * 8)).rounds, ((1, 0, 0, -1),))
        self.check_given(InvalidLot, Lot, {"tree": ALL}, "tree", ("or", (SIDE,) * 9))
        self.check_given(InvalidLot, Lot, {"tree": ALL}, "tree", ("or", ()))
        wide = ("or", tuple(("and", (ALL,) * 8) for _ in range(8)))
        self.assertEqual(Lot(("not", wide)).rounds, ())

    def test_limit_of_rounds(self):
        self.assertEqual(Lot(tree_with(EIGHT)).rounds, tuple(sorted(EIGHT)))
        opposites = [tuple(-number for number in circle) for circle in EIGHT]
        self.assertEqual(Lot(tree_with(EIGHT + opposites[:8])).rounds, tuple(sorted(EIGHT)))
        for many in (9, 16):
            rounds = [round_of_circle(at) for at in range(many)]
            for caught in (self.raised(TooMany, Lot, tree_with(rounds)), self.raised(TooMany, Lot, tree=tree_with(rounds))):
                self.assertEqual(caught.given, many)

    def test_too_many_rounds_come_last(self):
        leaves = tuple(("side", round_of_circle(at)) for at in range(24))
        three = (("and", leaves[:8]), ("and", leaves[8:16]), ("and", leaves[16:]))
        self.assertEqual(self.raised(TooMany, Lot, ("or", three)).given, 24)
        self.assertEqual(self.raised(InvalidLot, Lot, ("or", three + (SIDE,))).given, ("or", three + (SIDE,)))
        self.raised(InvalidLot, Lot, ("or", three + (None,)))


class Holding(ArgumentCase):
    def test_leaves(self):
        for circle, place in itertools.product(ROUNDS, PLACES):
            opposite = tuple(-number for number in circle)
            side = side_of(circle, place)
            self.assertIs(holds(Lot(("side", circle)), place), side >= 0)
            self.assertIs(holds(Lot(("side", opposite)), place), side <= 0)
            self.assertIs(holds(Lot(("rim", circle)), place), side == 0)
            self.assertIs(holds(Lot(("rim", opposite)), place), side == 0)
            self.assertIs(holds(Lot(ALL), place), True)

    def test_by_position_and_by_name(self):
        half = Lot(("side", (0, 1, 0, 0)))
        for place, held in [(FAR, True), ((1, 0, 1), True), ((0, 5, 1), True), ((-1, 5, 1), False)]:
            self.same_by_name(holds, {"lot": half, "place": place}, held)

    def test_trees_hold_as_the_words_say(self):
        for lot in sample_lots(50, 300):
            for place in PLACES:
                self.assertIs(holds(lot, place), holds_by_words(lot.tree, place))

    def test_great_numbers(self):
        lot = Lot(("and", (("side", (BIG, 1, 0, -BIG)), ("not", ("rim", (0, 3, 4, BIG))))))
        for place in PLACES:
            self.assertIs(holds(lot, place), holds_by_words(lot.tree, place))

    def test_wrong_arguments(self):
        wrongs = {"lot": (NotALot, ANYTHING + [SIDE, Lot]), "place": (InvalidPlace, WRONG_PLACES)}
        self.check_all_given(holds, {"lot": Lot(SIDE), "place": FAR}, wrongs)


class Combining(ArgumentCase):
    RULES = [(both, lambda first, second: first and second), (either, lambda first, second: first or second),
             (less, lambda first, second: first and not second)]

    def test_two_lots(self):
        lots = sample_lots(51, 60)
        pairs = [pair for pair in zip(lots, lots[1:] + lots[:1]) if len({*pair[0].rounds, *pair[1].rounds}) <= 8]
        self.assertGreater(len(pairs), 50)
        for (lot, other), (function, rule) in itertools.product(pairs, self.RULES):
            before = (lot.tree, lot.rounds, other.tree, other.rounds)
            for made in (function(lot, other), function(lot=lot, other=other)):
                self.assertIs(made.__class__, Lot)
                self.assertEqual(made.rounds, tuple(sorted({*lot.rounds, *other.rounds})))
                for place in PLACES:
                    self.assertIs(holds(made, place), rule(holds(lot, place), holds(other, place)))
                    self.assertIs(holds_by_words(made.tree, place), holds(made, place))
            self.assertEqual((lot.tree, lot.rounds, other.tree, other.rounds), before)

    def test_all_others(self):
        for lot in sample_lots(52, 60):
            for made in (rest(lot), rest(lot=lot)):
                self.assertEqual((made.__class__, made.rounds), (Lot, lot.rounds))
                for place in PLACES:
                    self.assertIs(holds(made, place), not holds(lot, place))

    def test_a_new_lot_each_time(self):
        lot = Lot(SIDE)
        for function, _ in self.RULES:
            first, second = function(lot, lot), function(lot, lot)
            self.assertFalse(first == second)
            self.assertFalse(first == lot)
            self.assertEqual((first.tree, first.rounds), (second.tree, second.rounds))
        self.assertFalse(rest(lot) == rest(lot))

    def test_greater_trees_than_a_lot_accepts(self):
        deep = Lot(chain_of_nots(6))
        for function, _ in self.RULES:
            made = function(deep, deep)
            self.assertIs(self.raised(InvalidLot, Lot, made.tree).given, made.tree)
            self.assertIs(holds(rest(made), (2, 0, 1)), not holds(made, (2, 0, 1)))
        wide = Lot(("and", (("or", (SIDE,) * 8), ("or", (RIM,) * 8), ("or", (SIDE,) * 8))))
        made = both(wide, Lot(SIDE))
        self.raised(InvalidLot, Lot, made.tree)
        self.assertEqual([holds(made, place) for place in ((0, 1, 1), (0, 0, 1), FAR)], [True, False, True])

    def test_very_deep_trees(self):
        lot = Lot(SIDE)
        for _ in range(5001):
            lot = rest(lot)
        self.assertEqual([holds(lot, place) for place in ((2, 0, 1), (0, 0, 1))], [False, True])
        for _ in range(1500):
            lot = either(lot, Lot(RIM))
        self.assertEqual([holds(lot, place) for place in ((2, 0, 1), (0, 0, 1), (0, 3, 1))], [False, True, True])
        self.assertEqual(lot.rounds, ((0, 1, 0, 0), (1, 0, 0, -1)))
        self.assertIs(self.raised(InvalidLot, Lot, lot.tree).given, lot.tree)

    def test_too_many_rounds_together(self):
        four, five, eight = Lot(tree_with(NINE[:4])), Lot(tree_with(NINE[4:])), Lot(tree_with(EIGHT))
        for function, _ in self.RULES:
            for lot, other in ((four, five), (five, four), (eight, Lot(("rim", NINE[8])))):
                self.assertEqual(self.raised(TooMany, function, lot, other).given, 9)
                self.assertEqual(self.raised(TooMany, function, lot=lot, other=other).given, 9)
            self.assertEqual(self.raised(TooMany, function, eight, Lot(tree_with([round_of_circle(at) for at in range(6, 14)]))).given, 14)
            self.assertEqual(len(function(eight, four).rounds), 8)
        self.assertEqual(len(rest(eight).rounds), 8)

    def test_wrong_arguments(self):
        wrong = (NotALot, ANYTHING + [SIDE, ALL, Lot])
        for function, _ in self.RULES:
            self.check_all_given(function, {"lot": Lot(SIDE), "other": Lot(RIM)}, {"lot": wrong, "other": wrong})
        self.check_all_given(rest, {"lot": Lot(SIDE)}, {"lot": wrong})


class Discs(ArgumentCase):
    def test_discs_hold_by_distance(self):
        for pole, square, place in itertools.product(PLACES[1:], [(1, 1), (5, 1), (9, 2), (1, BIG), (BIG * BIG, 1)], PLACES):
            inside = place != FAR and (value_of(place) - value_of(pole)).norm() <= Fraction(*square)
            for tree in (disc_tree(pole, square), disc_tree(pole=pole, square=square)):
                self.assertIs(holds(Lot(tree), place), inside)

    def test_the_rim_of_a_disc_belongs_to_it(self):
        disc = Lot(disc_tree((1, 0, 1), (4, 1)))
        told = [(3, 0, 1), (1, 2, 1), (-1, 0, 1), (301, 0, 100), (1, 0, 1), FAR]
        self.assertEqual([holds(disc, place) for place in told], [True, True, True, False, True, False])
        self.assertEqual(disc.rounds, ((1, -2, 0, -3),))

    def test_rings_hold_by_distance(self):
        samples = Samples(53)
        for _ in range(60):
            pole, ring = samples.ratio(4), samples.ring()
            low, high = Fraction(*ring[0]), Fraction(*ring[1])
            lots = [Lot(ring_tree(pole, ring)), Lot(ring_tree(pole=pole, ring=ring))]
            for lot, place in itertools.product(lots, PLACES):
                kept = place != FAR and low <= (value_of(place) - value_of(pole)).norm() <= high
                self.assertIs(holds(lot, place), kept)
            self.assertEqual(lots[0].tree, lots[1].tree)

    def test_the_ends_of_a_ring_belong_to_it(self):
        lot = Lot(ring_tree((0, 0, 1), ((1, 1), (4, 1))))
        told = [(1, 0, 1), (3, 4, 5), (2, 0, 1), (99, 0, 100), (201, 0, 100), (0, 0, 1), FAR]
        self.assertEqual([holds(lot, place) for place in told], [True, True, True, False, False, False, False])
        self.assertEqual(lot.rounds, ((1, 0, 0, -4), (1, 0, 0, -1)))

    def test_rounds_are_in_their_form(self):
        samples = Samples(54)
        for _ in range(100):
            for circle in Lot(ring_tree(samples.ratio(), samples.ring())).rounds:
                self.assertEqual(round_of(circle), circle)

    def test_wrong_arguments(self):
        pole = (InvalidRatio, WRONG_RATIOS)
        wrongs = {"pole": pole, "square": (InvalidFraction, WRONG_FRACTIONS)}
        self.check_all_given(disc_tree, {"pole": (1, 0, 1), "square": (5, 1)}, wrongs)
        self.check_all_given(ring_tree, {"pole": (1, 0, 1), "ring": RING}, {"pole": pole, "ring": (InvalidRing, WRONG_RINGS)})


if __name__ == "__main__":
    unittest.main()
