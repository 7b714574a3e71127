"""Promise [23], as far as arcs: which places lie on an arc, where it is led, what it shares, where it lies."""

import itertools
import unittest
from fractions import Fraction
from math import gcd

from drawarms.arcs import arc_holds, arc_lies_in, arc_meets_round, arc_round, arcs_share, is_arc, led_arc, reaches_arc
from drawarms.arms import arm_map, lets
from drawarms.errors import InvalidArc, InvalidArm, InvalidMap, InvalidPlace, InvalidRound, NotALot
from drawarms.inside import lies_inside
from drawarms.lots import Lot, both, disc_tree, holds, rest, ring_tree
from drawarms.maps import back, led_place, led_round, mirror_in
from drawarms.reach import reach_lot
from drawarms.rounds import round_through, value_at
from drawarms.triples import plain_through
from tests.lotsamples import ALL, EIGHT, NONE, rich_lots, tree_with
from tests.oracles import Ringed, arc_points, lies_on_arc, lot_has, point_of
from tests.support import ARC, BIG, FAR, PLACES, RING, ROUNDS, SIDE, STAYS, WRONG_ARCS, WRONG_CELLS, WRONG_LOTS, WRONG_MAPS
from tests.support import WRONG_PLACES, WRONG_ROUNDS, ArgumentCase, Samples, indexes_of_wrong, round_of_circle

BOW, BOWL = ((2, 0, 1), (0, 2, 1), (-2, 0, 1)), ((-2, 0, 1), (0, -2, 1), (2, 0, 1))
FROM_ZERO = ((0, 0, 1), (1, 0, 1), FAR)
THROUGH_FAR = ((1, 0, 1), FAR, (-1, 0, 1))
STRAIGHT = ((0, 0, 1), (0, 1, 1), (0, 3, 1))
TURNABOUT = ("turnabout", (0, 0, 1), (4, 1), RING)
ARM = (TURNABOUT, ("carry", (1, 0, 1)), ("grow", (0, 0, 1), (2, 0, 1), ((1, 1), (4, 1))))
CARRY, MIRROR = ("carry", (1, 0, 1)), ("mirror", (0, 1, -1, 0))


def backward(arc):
    return arc[::-1]


def places_along(arc, many):
    """Whole places of an arc, ends and second place among them."""
    chart = back(plain_through(arc, FROM_ZERO))
    steps = [Fraction(at, 3) for at in range(many)]
    return [led_place(chart, (step.numerator, 0, step.denominator)) for step in steps] + [led_place(chart, FAR)]


def places_off(arc, many):
    """Whole places of its round that don't lie on an arc."""
    chart = back(plain_through(arc, FROM_ZERO))
    return [led_place(chart, (-at, 0, 3 if at % 3 else 1)) for at in range(1, many + 1)]


class Arcs(ArgumentCase):
    def test_is_arc(self):
        samples = Samples(110)
        for arc in [ARC, BOW, BOWL, THROUGH_FAR, FROM_ZERO, backward(FROM_ZERO)] + [samples.arc() for _ in range(50)]:
            self.assertIs(is_arc(arc), True)
            self.assertIs(is_arc(value=arc), True)
        for value in WRONG_ARCS:
            self.assertIs(is_arc(value), False)
            self.assertIs(is_arc(value=value), False)

    def test_arc_round(self):
        self.same_by_name(arc_round, {"arc": BOW}, (1, 0, 0, -4))
        self.same_by_name(arc_round, {"arc": THROUGH_FAR}, (0, 0, 1, 0))
        samples = Samples(111)
        for _ in range(100):
            arc = samples.arc()
            self.same_by_name(arc_round, {"arc": arc}, round_through(*arc))
            self.assertEqual(arc_round(backward(arc)), round_through(*arc))

    def test_told_places(self):
        for arc, place, expected in [
            (BOW, (6, 8, 5), True), (BOW, (0, -2, 1), False), (BOW, (2, 0, 1), True), (BOW, (-2, 0, 1), True),
            (BOW, (0, 2, 1), True),
            (BOW, (0, 0, 1), False), (BOW, FAR, False), (THROUGH_FAR, FAR, True), (THROUGH_FAR, (0, 0, 1), False),
            (THROUGH_FAR, (5, 0, 1), True), (THROUGH_FAR, (-5, 0, 1), True), (THROUGH_FAR, (5, 1, 1), False),
            (FROM_ZERO, (BIG, 0, 1), True), (FROM_ZERO, (-1, 0, BIG), False), (FROM_ZERO, FAR, True),
            (FROM_ZERO, (0, 0, 1), True),
            (STRAIGHT, (0, 3, 1), True), (STRAIGHT, (0, 301, 100), False), (STRAIGHT, FAR, False), (STRAIGHT, (0, -1, 1), False),
        ]:
            self.same_by_name(arc_holds, {"arc": arc, "place": place}, expected)
            self.same_by_name(arc_holds, {"arc": backward(arc), "place": place}, expected)

    def test_places_by_a_map_to_the_line_of_real_numbers(self):
        samples = Samples(112)
        for _ in range(200):
            arc = samples.arc(samples.choice((1, 3, 12, BIG)))
            chart = plain_through(arc, FROM_ZERO)
            for place in [samples.place(3) for _ in range(3)] + places_along(arc, 4) + places_off(arc, 4):
                p, s, _ = led_place(chart, place)
                for one in (arc, backward(arc)):
                    self.same_by_name(arc_holds, {"arc": one, "place": place}, s == 0 and p >= 0)
            self.assertTrue(all(arc_holds(arc, place) for place in places_along(arc, 6)))
            self.assertFalse(any(arc_holds(arc, place) for place in places_off(arc, 6)))

    def test_another_second_place_of_the_same_arc(self):
        samples = Samples(113)
        for _ in range(60):
            arc = samples.arc()
            for place in places_along(arc, 5)[1:-1]:
                again = (arc[0], place, arc[2])
                for other in places_along(arc, 3) + places_off(arc, 3):
                    self.assertEqual(arc_holds(again, other), arc_holds(arc, other))
                self.assertIsNone(arcs_share(again, arc))

    def test_maps_lead_arcs_place_by_place(self):
        self.same_by_name(led_arc, {"chart": mirror_in((1, 0, 0, -1)), "arc": BOW}, ((1, 0, 2), (0, 1, 2), (-1, 0, 2)))
        samples = Samples(114)
        for _ in range(100):
            chart, arc = samples.chart(), samples.arc()
            self.same_by_name(led_arc, {"chart": chart, "arc": arc}, tuple(led_place(chart, place) for place in arc))
            self.assertEqual(arc_round(led_arc(chart, arc)), led_round(chart, arc_round(arc)))
            for place in places_along(arc, 4) + places_off(arc, 3) + PLACES[:4]:
                self.assertEqual(arc_holds(led_arc(chart, arc), led_place(chart, place)), arc_holds(arc, place))

    def test_wrong_arguments(self):
        arc = (InvalidArc, WRONG_ARCS)
        self.check_all_given(arc_round, {"arc": BOW}, {"arc": arc})
        self.check_all_given(arc_holds, {"arc": BOW, "place": FAR}, {"arc": arc, "place": (InvalidPlace, WRONG_PLACES)})
        self.check_all_given(led_arc, {"chart": STAYS, "arc": BOW}, {"chart": (InvalidMap, WRONG_MAPS), "arc": arc})


class MeetingRounds(ArgumentCase):
    def test_told_ones(self):
        for arc, circle, expected in [
            (BOW, (0, 1, 0, 0), 1), (BOW, (0, 0, 1, 0), 2), (BOW, (0, 0, 1, -3), 0), (BOW, (1, 0, 0, -4), None),
            (BOW, (0, 0, 1, -2), 1), (BOW, (0, 0, 1, 2), 0), (BOW, (0, 1, 0, -2), 1), (BOW, (1, 0, 0, -3), 0),
            (BOW, (0, 0, 1, -1), 2), (BOW, (0, 0, 1, 1), 0), (BOW, (0, 1, 1, -1), 1), (BOW, (0, 2, 1, -3), 1),
            (BOW, (0, 2, 2, -5), 2),
            (THROUGH_FAR, (0, 1, 0, 0), 1), (THROUGH_FAR, (0, 1, 0, -2), 2), (THROUGH_FAR, (0, 0, 1, -1), 1),
            (THROUGH_FAR, (1, 0, 0, -4), 2), (THROUGH_FAR, (2, 0, 0, -1), 0), (THROUGH_FAR, (1, 0, 0, -1), 2),
            (THROUGH_FAR, (0, 0, 1, 0), None), (FROM_ZERO, (1, 0, 0, -3), 1), (FROM_ZERO, (1, 0, -1, 0), 1),
            (((-1, 0, 1), (1, 0, 1), (2, 0, 1)), (1, 0, 0, -3), 1), (((-2, 0, 1), (1, 0, 1), (2, 0, 1)), (1, 0, 0, -3), 2),
        ]:
            self.same_by_name(arc_meets_round, {"arc": arc, "circle": circle}, expected)
            self.same_by_name(arc_meets_round, {"arc": backward(arc), "circle": circle}, expected)

    def test_by_a_map_to_the_line_of_real_numbers(self):
        samples = Samples(115)
        found = {}
        for _ in range(600):
            size = samples.choice((1, 2, 3, BIG))
            arc, circle = samples.arc(size), samples.choice((samples.circle(3), samples.choice(ROUNDS)))
            q, l, _, k = led_round(plain_through(arc, FROM_ZERO), circle)
            if circle == arc_round(arc):
                expected = None
            elif q == 0:
                # A far root, and one more if the other one is a number from 0 on.
                expected = 1 + int(l != 0 and -k * l >= 0)
            elif l * l - 4 * q * k <= 0:
                expected = int(l * l == 4 * q * k and -l * q >= 0)
            else:
                # Two roots of the product k / q and the sum -l / q.
                expected = (1 if k * q < 0 else 2 if l * q < 0 else 1 if k == 0 else 0)
            self.same_by_name(arc_meets_round, {"arc": arc, "circle": circle}, expected)
            found[expected] = found.get(expected, 0) + 1
        self.assertGreater(min(found[many] for many in (0, 1, 2)), 30)

    def test_touching_rounds(self):
        samples = Samples(116)
        for _ in range(80):
            arc = samples.arc(3)
            q, l, m, k = arc_round(arc)
            for place, expected in ((places_along(arc, 5)[2], 1), (arc[2], 1), (places_off(arc, 2)[0], 0)):
                # Added to the row, one that has this place alone makes a round that touches there.
                p, s, r = place
                null = (r * r, -2 * p * r, -2 * s * r, p * p + s * s)
                numbers = [3 * number + beside for number, beside in zip((q, l, m, k), null)]
                circle = round_with(numbers)
                self.assertEqual(value_at(circle, place), 0)
                self.same_by_name(arc_meets_round, {"arc": arc, "circle": circle}, expected)

    def test_wrong_arguments(self):
        wrongs = {"arc": (InvalidArc, WRONG_ARCS), "circle": (InvalidRound, WRONG_ROUNDS)}
        self.check_all_given(arc_meets_round, {"arc": BOW, "circle": (0, 1, 0, 0)}, wrongs)


def round_with(numbers):
    common = gcd(*numbers)
    row = tuple(number // common for number in numbers)
    return row if row > (0, 0, 0, 0) else tuple(-number for number in row)


class Sharing(ArgumentCase):
    def test_told_ones(self):
        right, left = ((0, -2, 1), (2, 0, 1), (0, 2, 1)), ((0, 2, 1), (-2, 0, 1), (0, -2, 1))
        for arc, other, expected in [
            (BOW, BOWL, 2), (BOW, STRAIGHT, 1), (BOW, BOW, None), (BOW, backward(BOW), None), (BOW, right, None),
            (BOW, left, None),
            (right, left, 2), (BOW, ((0, -2, 1), (-6, -8, 5), (-2, 0, 1)), 1), (BOW, ((8, -6, 5), (0, -2, 1), (-8, -6, 5)), 0),
            (BOW, ((0, 2, 1), (6, 8, 5), (8, 6, 5)), None), (BOW, ((8, -6, 5), (2, 0, 1), (8, 6, 5)), None),
            (BOW, ((6, 8, 5), (0, -2, 1), (-6, 8, 5)), None), (BOW, ((6, 8, 5), (0, 2, 1), (-6, 8, 5)), None),
            (BOW, ((2, 0, 1), (0, -2, 1), (-2, 0, 1)), 2), (BOW, ((2, 0, 1), (0, -2, 1), (-6, 8, 5)), None),
            (THROUGH_FAR, STRAIGHT, 0), (THROUGH_FAR, ((0, 0, 1), (0, 1, 1), FAR), 1),
            (THROUGH_FAR, ((-1, 0, 1), (0, 0, 1), (1, 0, 1)), 2), (THROUGH_FAR, ((-1, 0, 2), (0, 0, 1), (1, 0, 2)), 0),
            (THROUGH_FAR, ((0, 0, 1), (1, 0, 2), (1, 0, 1)), 1), (THROUGH_FAR, ((0, 0, 1), (1, 0, 1), (2, 0, 1)), None),
            (THROUGH_FAR, ((0, 1, 1), FAR, (1, 1, 1)), 1), (((0, 0, 1), (1, 0, 1), (2, 0, 1)), ((0, 1, 1), FAR, (1, 1, 1)), 0),
            (FROM_ZERO, ((0, 0, 1), (-1, 0, 1), FAR), 2), (FROM_ZERO, ((-1, 0, 1), (-2, 0, 1), FAR), 1),
            (((1, 0, 1), (0, 1, 1), (-1, 0, 1)), ((2, 1, 1), (0, 1, 1), (-2, 1, 1)), 1),
            (((-2, 0, 1), (0, 0, 1), (2, 0, 1)), ((1, 1, 1), (0, -1, 1), (-1, 1, 1)), 2),
        ]:
            for first, second in itertools.product((arc, backward(arc)), (other, backward(other))):
                self.same_by_name(arcs_share, {"arc": first, "other": second}, expected)
                self.same_by_name(arcs_share, {"arc": second, "other": first}, expected)

    def test_arcs_of_different_rounds_by_angles(self):
        samples = Samples(117)
        found = {}
        for _ in range(400):
            arc, other = samples.arc(samples.choice((1, 2, 3))), samples.arc(samples.choice((1, 2, 3)))
            circle, beside = arc_round(arc), arc_round(other)
            if circle != beside:
                points = [Ringed(circle).point(angle) for angle in Ringed(circle).angles((beside,))]
                expected = sum(lies_on_arc(arc, circle, point) and lies_on_arc(other, beside, point) for point in points)
                self.same_by_name(arcs_share, {"arc": arc, "other": other}, expected)
                found[expected] = found.get(expected, 0) + 1
        self.assertGreater(min(found[many] for many in (0, 1, 2)), 40)

    def test_arcs_of_one_round_by_numbers(self):
        # On the line of real numbers an arc from x to y holds the numbers between them or all others.
        def held(arc, number):
            begin, over, end = [Fraction(place[0], place[2]) for place in arc]
            between = min(begin, end) < over < max(begin, end)
            return number in (begin, end) or (min(begin, end) < number < max(begin, end)) == between

        samples = Samples(118)
        found = {}
        steps = [Fraction(at, 2) for at in range(-14, 15)]
        for _ in range(1200):
            arcs = [tuple((number, 0, 1) for number in samples_of_three(samples)) for _ in range(2)]
            if samples.whole() > 4 and arcs[1][1] not in arcs[0]:
                arcs[1] = (arcs[0][2], arcs[1][1], arcs[0][0])
            common = [step for step in steps if held(arcs[0], step) and held(arcs[1], step)]
            expected = None if any(step.denominator == 2 for step in common) else len(common)
            chart = samples.chart()
            moved = [led_arc(chart, arc) for arc in arcs]
            self.same_by_name(arcs_share, {"arc": moved[0], "other": moved[1]}, expected)
            found[expected] = found.get(expected, 0) + 1
        self.assertGreater(min(found[many] for many in (None, 0, 1, 2)), 5, found)

    def test_great_numbers(self):
        long = ((-BIG, 0, 1), (0, 0, 1), (BIG, 0, 1))
        self.same_by_name(arcs_share, {"arc": long, "other": ((BIG, 0, 1), (BIG + 1, 0, 1), FAR)}, 1)
        self.same_by_name(arcs_share, {"arc": long, "other": ((BIG, 1, 1), (BIG, 0, 1), (BIG, -1, 1))}, 1)
        self.same_by_name(arcs_share, {"arc": long, "other": ((BIG + 1, 1, 1), (BIG + 1, 0, 1), (BIG + 1, -1, 1))}, 0)

    def test_wrong_arguments(self):
        wrong = (InvalidArc, WRONG_ARCS)
        self.check_all_given(arcs_share, {"arc": BOW, "other": BOWL}, {"arc": wrong, "other": wrong})


def samples_of_three(samples):
    while True:
        numbers = [samples.whole(6) for _ in range(3)]
        if len(set(numbers)) == 3:
            return numbers


class InLots(ArgumentCase):
    def test_told_ones(self):
        ring = Lot(ring_tree((0, 0, 1), RING))
        for arc, lot, expected in [
            (BOW, ring, True), (BOW, Lot(("rim", (1, 0, 0, -4))), True), (BOW, Lot(("side", (0, 0, 1, 0))), True),
            (BOWL, Lot(("side", (0, 0, 1, 0))), False), (BOW, Lot(("not", ("side", (0, 0, -1, 0)))), False),
            (BOW, Lot(("not", ("rim", (0, 1, 0, 0)))), False), (BOW, Lot(("not", ("rim", (0, 0, 1, -2)))), False),
            (BOW, Lot(("not", ("rim", (0, 0, 1, 2)))), True), (BOW, Lot(("not", ("rim", (0, 0, 1, 1)))), True),
            (BOW, Lot(("side", (0, 0, -1, 2))), True), (BOW, Lot(disc_tree((0, 0, 1), (4, 1))), True), (BOW, Lot(NONE), False),
            (THROUGH_FAR, Lot(ALL), True), (THROUGH_FAR, Lot(SIDE), True), (THROUGH_FAR, ring, False),
            (THROUGH_FAR, Lot(("not", ("rim", (0, 1, 0, 0)))), False),
            (THROUGH_FAR, Lot(("or", (SIDE, ("rim", (0, 1, 0, 0))))), True),
            (THROUGH_FAR, Lot(("not", ("and", (("rim", (0, 1, 0, 0)), ("rim", (0, 1, 0, -1)))))), False),
            (STRAIGHT, Lot(("not", ("and", (("rim", (0, 1, 0, 0)), ("rim", (0, 1, 0, -1)))))), True),
            (((-1, 0, 1), (0, 0, 1), (1, 0, 1)), Lot(("not", SIDE)), False),
            (((-1, 0, 2), (0, 0, 1), (1, 0, 2)), Lot(("not", SIDE)), True),
        ]:
            for one in (arc, backward(arc)):
                self.same_by_name(arc_lies_in, {"arc": one, "lot": lot}, expected)

    def test_samples_by_angles(self):
        samples = Samples(119)
        found = []
        for lot in rich_lots(120, 500):
            arc = samples.arc(samples.choice((1, 2, 3)))
            expected = all(lot_has(lot, point) for point in arc_points(arc, arc_round(arc), lot.rounds))
            for one in (arc, backward(arc)):
                self.same_by_name(arc_lies_in, {"arc": one, "lot": lot}, expected)
            found.append(expected)
            if expected:
                self.assertTrue(all(holds(lot, place) for place in places_along(arc, 5)))
                self.assertFalse(arc_lies_in(arc, rest(lot)))
        self.assertGreater(min(found.count(True), found.count(False)), 60)

    def test_an_arc_that_is_told_as_a_lot(self):
        # An upper half of a circle is the part of it in a half plane.
        bow = Lot(("and", (("rim", (1, 0, 0, -4)), ("side", (0, 0, 1, 0)))))
        for lot in rich_lots(121, 150, 6):
            self.assertEqual(arc_lies_in(BOW, lot), lies_inside(bow, lot))

    def test_the_arc_does_not_count(self):
        eight = Lot(("and", tuple(("side", (-1, 0, 0, 5 + at)) for at in range(8))))
        self.assertIs(arc_lies_in(BOW, eight), True)
        self.assertIs(arc_lies_in(STRAIGHT, eight), False)
        self.assertIs(arc_lies_in(BOW, Lot(tree_with(EIGHT))), True)

    def test_wrong_arguments(self):
        wrongs = {"arc": (InvalidArc, WRONG_ARCS), "lot": (NotALot, WRONG_LOTS)}
        self.check_all_given(arc_lies_in, {"arc": BOW, "lot": Lot(SIDE)}, wrongs)


class InReaches(ArgumentCase):
    def test_told_ones(self):
        for arm, arc, expected in [
            (ARM, ((-9, 12, 5), (0, 3, 1), (21, 72, 25)), True), (ARM, ((-9, 12, 5), (0, -3, 1), (21, 72, 25)), False),
            ((), THROUGH_FAR, True), ((CARRY, MIRROR), THROUGH_FAR, True), ((TURNABOUT,), THROUGH_FAR, False),
            ((), FROM_ZERO, True), ((TURNABOUT,), BOW, True), ((TURNABOUT,), STRAIGHT, False),
            ((TURNABOUT,), ((0, 1, 1), (0, 2, 1), (0, 3, 1)), True), ((TURNABOUT,), ((0, 1, 1), (0, 2, 1), (0, 301, 100)), False),
            ((TURNABOUT,), ((1, 0, 1), (2, 0, 1), FAR), False),
        ]:
            for one in (arc, backward(arc)):
                self.same_by_name(reaches_arc, {"arm": arm, "arc": one}, expected)

    def test_samples(self):
        samples = Samples(122)
        many = 0
        for _ in range(300):
            arm, arc = samples.arm(2), samples.arc()
            expected = arc_lies_in(arc, reach_lot(arm))
            self.same_by_name(reaches_arc, {"arm": arm, "arc": arc}, expected)
            if expected:
                many += 1
                self.assertTrue(all(lets(arm, place) for place in places_along(arc, 5) if place != FAR))
                led = led_arc(arm_map(arm), arc)
                self.assertTrue(all(arc_holds(led, led_place(arm_map(arm), place)) for place in places_along(arc, 5)))
        self.assertGreater(many, 40)

    def test_wrong_arguments(self):
        told = indexes_of_wrong((CARRY, TURNABOUT, MIRROR, CARRY, CARRY), WRONG_CELLS, 4)
        self.check_indexes(InvalidArm, reaches_arc, {"arm": (), "arc": BOW}, "arm", told)
        self.check_all_given(reaches_arc, {"arm": ARM, "arc": BOW}, {"arm": (InvalidArm, []), "arc": (InvalidArc, WRONG_ARCS)})


class AllPlaces(ArgumentCase):
    def test_places_by_angles(self):
        samples = Samples(123)
        for _ in range(100):
            arc = samples.arc(2)
            circle = arc_round(arc)
            for place in places_along(arc, 4) + places_off(arc, 4):
                self.assertEqual(arc_holds(arc, place), lies_on_arc(arc, circle, point_of(place)))

    def test_arcs_of_a_round_that_reach_all_of_it(self):
        lot = Lot(("side", round_of_circle(3)))
        self.assertEqual([arc_lies_in(arc, both(lot, Lot(("rim", (1, 0, 0, -4))))) for arc in (BOW, BOWL, STRAIGHT)],
            [True, True, False])


if __name__ == "__main__":
    unittest.main()
