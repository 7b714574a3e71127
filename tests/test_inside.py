"""Promise [20], and [2] for lots: what is settled about lots for all places."""

import itertools
import unittest

from drawarms.errors import InvalidRound, NotALot, TooMany
from drawarms.inside import any_place, fields_of, has_near_place, is_bounded, is_empty, is_open_somewhere, is_same
from drawarms.inside import lies_inside, parting_place, stretches
from drawarms.lots import Lot, both, disc_tree, either, holds, less, rest, ring_tree
from drawarms.meetings import signs_for
from drawarms.places import is_place
from drawarms.rounds import side_of
from tests.lotsamples import ALL, EIGHT, NINE, NONE, RIM, rich_lots, sample_lots, tree_with
from tests.oracles import signs_that_occur, stretches_by_angles, tree_has
from tests.support import BIG, FAR, PLACES, ROUNDS, SIDE, WRONG_LOTS, WRONG_ROUNDS, ArgumentCase, Samples, chain_of_nots

UNIT, BARE, UPRIGHT, FLAT = (1, 0, 0, -1), (1, 0, 0, -3), (0, 1, 0, 0), (0, 0, 1, 0)
ONE_LOT = {"is_empty": is_empty, "has_near_place": has_near_place, "is_open_somewhere": is_open_somewhere,
           "is_bounded": is_bounded, "fields_of": fields_of, "any_place": any_place}
# A lot, then whether it is empty, has a near place, is open somewhere, is bounded.
FAR_ALONE = ("and", (("rim", UPRIGHT), ("rim", (0, 1, 0, -1))))
SETTLED = [
    (ALL, False, True, True, False), (NONE, True, False, False, True), (SIDE, False, True, True, False),
    (("side", (-1, 0, 0, 1)), False, True, True, True), (RIM, False, True, False, False),
    (("rim", BARE), False, True, False, True),
    (FAR_ALONE, False, False, False, False), (("not", FAR_ALONE), False, True, True, False),
    (("and", (("rim", UPRIGHT), ("rim", FLAT))), False, True, False, False),
    (("and", (("rim", UPRIGHT), ("rim", FLAT), ("side", (-1, 0, 0, 1)))), False, True, False, True),
    (("and", (("rim", UPRIGHT), ("rim", FLAT), SIDE)), False, False, False, False),
    (("and", (("rim", UNIT), ("rim", (1, -4, 0, 3)))), False, True, False, True),
    (("and", (("rim", UNIT), ("rim", BARE))), True, False, False, True),
    (("and", (("rim", BARE), ("rim", (0, 1, 0, -1)))), False, True, False, True),
    (("and", (("rim", BARE), ("side", (0, 1, 0, -2)))), True, False, False, True),
    (("and", (("rim", BARE), ("side", (0, 2, 0, -3)))), False, True, False, True),
    (("and", (("side", (-1, 0, 0, 1)), ("side", BARE))), True, False, False, True),
    (("and", (SIDE, ("side", (-1, 0, 0, 1)))), False, True, False, True),
    (("and", (("not", SIDE), ("not", ("rim", UPRIGHT)))), False, True, True, True),
    (("and", (("side", UPRIGHT), ("side", (0, -1, 0, 0)))), False, True, False, False),
    (("and", (("side", UPRIGHT), ("side", (0, -1, 0, 1)), ("side", FLAT), ("side", (0, 0, -1, 1)))), False, True, True, False),
    (("and", (("side", (0, -1, 0, 1)), ("side", UPRIGHT), ("side", (0, 0, -1, 1)), ("side", FLAT), ("not", FAR_ALONE))),
     False, True, True, True),
    (("or", (("rim", UNIT), ("rim", BARE), ("and", (("rim", FLAT), ("side", (-1, 0, 0, 9)))))), False, True, False, True),
    (("and", (("rim", FLAT), ("not", ("rim", UPRIGHT)), ("not", SIDE))), False, True, False, True),
    (("and", (("not", ("side", UPRIGHT)), ("side", (0, 1, 0, 1)))), False, True, True, False),
]


class OneLot(ArgumentCase):
    def test_settled_lots(self):
        for tree, *expected in SETTLED:
            lot = Lot(tree)
            for function, told in zip((is_empty, has_near_place, is_open_somewhere, is_bounded), expected):
                self.same_by_name(function, {"lot": lot}, told)

    def test_samples_by_angles(self):
        for lot in rich_lots(70, 300):
            occurring = signs_that_occur(lot.rounds)
            held = sorted(signs for signs in occurring if tree_has(lot.tree, dict(zip(lot.rounds, signs))))
            self.same_by_name(fields_of, {"lot": lot}, tuple(held))
            self.same_by_name(is_empty, {"lot": lot}, not held)
            self.same_by_name(has_near_place, {"lot": lot}, any(occurring[signs] for signs in held))
            self.same_by_name(is_open_somewhere, {"lot": lot}, any(0 not in signs for signs in held))

    def test_bounded_lots_lie_in_a_disc(self):
        disc = Lot(disc_tree((0, 0, 1), (10 ** 12, 1)))
        many = 0
        for lot in rich_lots(71, 300, 7):
            self.same_by_name(is_bounded, {"lot": lot}, lies_inside(lot, disc))
            many += is_bounded(lot) and not is_empty(lot)
        self.assertGreater(many, 30)

    def test_fields(self):
        for tree, expected in [
            (ALL, ((),)), (NONE, ()), (SIDE, ((0,), (1,))), (RIM, ((0,),)), (("not", RIM), ((-1,), (1,))), (FAR_ALONE, ((0, 0),)),
            (("side", (-1, 0, 0, 1)), ((-1,), (0,))), (("and", (("rim", UNIT), ("rim", BARE))), ()),
        ]:
            self.same_by_name(fields_of, {"lot": Lot(tree)}, expected)
        for lot in (Lot(tree_with(EIGHT)), Lot(("not", tree_with(EIGHT))), Lot(("or", tuple(("rim", row) for row in EIGHT)))):
            others = fields_of(rest(lot))
            self.assertEqual(tuple(sorted(fields_of(lot) + others)), signs_for(lot.rounds))

    def test_any_place(self):
        lots = [Lot(tree) for tree, *_ in SETTLED] + rich_lots(72, 200) + sample_lots(73, 100)
        for lot in lots:
            for place in (any_place(lot), any_place(lot=lot)):
                self.assertEqual(place is not None, is_open_somewhere(lot))
                if place is not None:
                    self.assertTrue(is_place(place) and place != FAR and holds(lot, place))

    def test_any_place_in_narrow_lots(self):
        for tree in [
            ("and", (("side", (1, 0, 0, -BIG)), ("not", ("side", (1, 0, 0, -BIG - 1))))),
            ("and", (("side", (0, BIG, 1, 0)), ("side", (0, -BIG - 1, -1, 0)), ("not", ("rim", UPRIGHT)))),
            ("and", (("side", (0, 1, 0, -BIG)), ("side", (1, 0, 0, -BIG * BIG)), ("side", (-1, 0, 0, BIG * BIG + 1)))),
            ("not", ("or", (("side", UPRIGHT), ("side", (1, 2 * BIG, 0, 0)), ("side", (0, -1, 0, -1))))),
            ("and", (("side", (1, 2, 0, 0)), ("side", (-BIG, -2 * BIG - 1, 0, 0)), ("not", RIM))),
            ("not", ("side", (1, -2 * BIG, 0, BIG * BIG - 1))), ("not", ("side", (BIG, -2, 0, 0))),
        ]:
            lot = Lot(tree)
            place = any_place(lot)
            self.assertTrue(is_place(place) and place != FAR)
            self.assertIs(holds(lot, place), True)

    def test_greater_trees_than_a_lot_accepts(self):
        lot, plain = Lot(chain_of_nots(6)), Lot(SIDE)
        for _ in range(600):
            lot = rest(both(either(lot, plain), plain))
        # What is left is, by turns, all that is in the side and all that is not.
        self.assertEqual([is_empty(lot), is_open_somewhere(lot), is_bounded(lot)], [False, True, True])
        self.assertEqual(fields_of(lot), ((-1,),))
        self.assertTrue(is_same(lot, Lot(("not", SIDE))))

    def test_wrong_arguments(self):
        for function in ONE_LOT.values():
            self.check_all_given(function, {"lot": Lot(SIDE)}, {"lot": (NotALot, WRONG_LOTS)})


class Rest(ArgumentCase):
    def test_a_lot_and_the_rest_of_it(self):
        for lot in rich_lots(74, 80) + [Lot(tree) for tree, *_ in SETTLED]:
            other = rest(lot)
            self.assertTrue(is_empty(both(lot, other)))
            self.assertTrue(is_empty(rest(either(lot, other))))
            self.assertTrue(is_same(rest(other), lot))
            self.assertEqual(is_empty(lot), lies_inside(Lot(ALL), other))
            self.assertFalse(is_bounded(lot) and is_bounded(other))
            self.assertTrue(is_open_somewhere(lot) or is_open_somewhere(other))


class TwoLots(ArgumentCase):
    def pairs(self, seed, many):
        lots = rich_lots(seed, many, 5)
        for lot, other in list(zip(lots, lots[1:])) + [(lot, either(lot, other)) for lot, other in zip(lots, lots[2:])]:
            if len({*lot.rounds, *other.rounds}) <= 8:
                yield lot, other

    def test_inside_and_same(self):
        inside = same = 0
        for lot, other in self.pairs(75, 120):
            rounds = tuple(sorted({*lot.rounds, *other.rounds}))
            occurring = [dict(zip(rounds, signs)) for signs in signs_that_occur(rounds)]
            held = [(tree_has(lot.tree, told), tree_has(other.tree, told)) for told in occurring]
            self.same_by_name(lies_inside, {"lot": lot, "other": other}, all(second or not first for first, second in held))
            self.same_by_name(is_same, {"lot": lot, "other": other}, all(second == first for first, second in held))
            self.assertEqual(lies_inside(lot, other), is_empty(less(lot, other)))
            self.assertEqual(is_same(lot, other), lies_inside(lot, other) and lies_inside(other, lot))
            inside, same = inside + lies_inside(lot, other), same + is_same(lot, other)
        self.assertGreater(inside, 50)
        self.assertGreater(same, 10)

    def test_parting_places(self):
        parted = 0
        for lot, other in self.pairs(76, 120):
            apart = either(less(lot, other), less(other, lot))
            for place in (parting_place(lot, other), parting_place(lot=lot, other=other)):
                self.assertEqual(place is not None, is_open_somewhere(apart))
                if place is not None:
                    parted += 1
                    self.assertTrue(is_place(place) and place != FAR)
                    self.assertNotEqual(holds(lot, place), holds(other, place))
        self.assertGreater(parted, 100)

    def test_told_ones(self):
        half, ring = Lot(("side", UPRIGHT)), Lot(ring_tree((0, 0, 1), ((1, 1), (4, 1))))
        disc, closed = Lot(disc_tree((0, 0, 1), (4, 1))), Lot(("not", ("side", (1, 0, 0, -4))))
        for lot, other, inside, same in [
            (ring, disc, True, False), (disc, ring, False, False), (closed, disc, True, False), (disc, closed, False, False),
            (half, half, True, True), (Lot(NONE), half, True, False), (half, Lot(ALL), True, False),
            (both(ring, half), Lot(disc_tree((1, 0, 1), (5, 1))), True, False),
            (both(ring, half), Lot(disc_tree((1, 0, 1), (9, 2))), False, False),
            (Lot(("rim", BARE)), Lot(disc_tree((0, 0, 1), (3, 1))), True, False),
            (Lot(("rim", BARE)), Lot(disc_tree((0, 0, 1), (2999999, 1000000))), False, False),
            (Lot(FAR_ALONE), half, True, False), (Lot(FAR_ALONE), disc, False, False),
            (Lot(FAR_ALONE), Lot(("and", (("rim", FLAT), ("rim", (0, 0, 2, 1))))), True, True),
        ]:
            self.same_by_name(lies_inside, {"lot": lot, "other": other}, inside)
            self.same_by_name(is_same, {"lot": lot, "other": other}, same)
        self.assertIsNone(parting_place(closed, disc))
        self.assertIsNone(parting_place(half, half))
        self.assertIsNone(parting_place(Lot(FAR_ALONE), Lot(NONE)))

    def test_too_many_rounds(self):
        four, five, eight = Lot(tree_with(NINE[:4])), Lot(tree_with(NINE[4:])), Lot(tree_with(EIGHT))
        for function in (lies_inside, is_same, parting_place):
            for lot, other, given in [(four, five, 9), (five, four, 9), (eight, Lot(("rim", NINE[8])), 9),
                                      (eight, Lot(tree_with([(0, 1, 0, at) for at in range(8)])), 16)]:
                self.assertEqual(self.raised(TooMany, function, lot, other).given, given)
                self.assertEqual(self.raised(TooMany, function, lot=lot, other=other).given, given)
        self.assertIs(lies_inside(four, eight), lies_inside(four, Lot(tree_with(EIGHT))))
        self.assertIs(is_same(eight, eight), True)

    def test_wrong_arguments(self):
        wrong = (NotALot, WRONG_LOTS)
        for function in (lies_inside, is_same, parting_place):
            self.check_all_given(function, {"lot": Lot(SIDE), "other": Lot(RIM)}, {"lot": wrong, "other": wrong})
            self.assertIsNone(self.raised(NotALot, function, Lot(tree_with(EIGHT)), None).given)


class Stretches(ArgumentCase):
    def test_told_ones(self):
        ring = Lot(ring_tree((0, 0, 1), ((1, 1), (4, 1))))
        for circle, lot, expected in [
            (UPRIGHT, ring, 2), ((0, 1, 0, -2), ring, 1), ((1, 0, 0, -4), ring, None), ((1, 0, 0, -9), ring, 0),
            ((1, -4, 0, 3), ring, 1), (BARE, ring, None), (UPRIGHT, Lot(("rim", FLAT)), 2), (UPRIGHT, Lot(RIM), None),
            (UPRIGHT, Lot(("not", ("rim", FLAT))), 2), (UPRIGHT, Lot(("not", RIM)), 0), (UNIT, Lot(("rim", (0, 1, 0, -1))), 1),
            (UNIT, Lot(("not", ("rim", (0, 1, 0, -1)))), 1), (UNIT, Lot(("not", ("side", (0, 1, 0, -1)))), 1),
            (UNIT, Lot(FAR_ALONE), 0), (UPRIGHT, Lot(FAR_ALONE), 1), ((0, 1, 0, -5), Lot(FAR_ALONE), 1),
            ((0, 1, 0, -5), Lot(("not", FAR_ALONE)), 1), (UNIT, Lot(ALL), None), (BARE, Lot(NONE), 0),
            (BARE, Lot(("side", (0, 2, 0, -3))), 1), (BARE, Lot(("not", ("rim", FLAT))), 2), (BARE, Lot(SIDE), None),
            (FLAT, Lot(("and", tuple(("side", (0, 1, 0, at)) for at in range(8)))), 1),
            (FLAT, Lot(("not", ("or", tuple(("rim", (0, 1, 0, at)) for at in range(8))))), 9),
            (FLAT, Lot(("or", tuple(("rim", (1, 0, 0, -at * at)) for at in range(1, 9)))), 16),
        ]:
            self.same_by_name(stretches, {"circle": circle, "lot": lot}, expected)

    def test_the_far_place_parts_a_line(self):
        gaps = ("not", ("or", tuple(("rim", (1, 0, 0, -at * at)) for at in range(1, 4))))
        self.assertEqual(stretches(FLAT, Lot(gaps)), 6)
        self.assertEqual(stretches(FLAT, Lot(("and", (gaps, ("not", ("rim", (0, 0, 1, -1))))))), 7)

    def test_samples_by_angles(self):
        samples = Samples(77)
        found = {}
        for lot in rich_lots(78, 300):
            for circle in (samples.circle(3), samples.choice(ROUNDS[:13])) + lot.rounds[:1]:
                many = stretches_by_angles(circle, lot)
                self.same_by_name(stretches, {"circle": circle, "lot": lot}, many)
                found[many] = found.get(many, 0) + 1
                self.assertEqual(many is None, lies_inside(Lot(("rim", circle)), lot) if len(lot.rounds) < 8 else many is None)
        self.assertGreater(min(found.get(many, 0) for many in (None, 0, 1, 2)), 20)

    def test_the_round_does_not_count(self):
        eight = Lot(tree_with(EIGHT))
        self.assertEqual(stretches(UPRIGHT, eight), stretches_by_angles(UPRIGHT, eight))
        self.assertEqual(stretches(NINE[8], eight), None)

    def test_wrong_arguments(self):
        wrongs = {"circle": (InvalidRound, WRONG_ROUNDS), "lot": (NotALot, WRONG_LOTS)}
        self.check_all_given(stretches, {"circle": UNIT, "lot": Lot(SIDE)}, wrongs)


class AllPlaces(ArgumentCase):
    def test_places_have_fields_that_are_told(self):
        for lot in rich_lots(79, 60):
            fields = fields_of(lot)
            for place in PLACES:
                signs = tuple(side_of(circle, place) for circle in lot.rounds)
                self.assertEqual(holds(lot, place), signs in fields)

    def test_great_numbers(self):
        samples = Samples(80)
        for _ in range(10):
            rows = [samples.row(BIG) for _ in range(3)]
            for words in itertools.product(("side", "rim"), repeat=3):
                lot = Lot(("and", tuple(zip(words, rows))))
                self.assertEqual(is_empty(lot), not fields_of(lot))
                place = any_place(lot)
                self.assertEqual(place is not None, is_open_somewhere(lot))
                self.assertTrue(place is None or holds(lot, place))


if __name__ == "__main__":
    unittest.main()
