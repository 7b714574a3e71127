"""Promise [23], curves: closed and simple ones, where maps lead them, where they lie, the two pieces they part."""

import itertools
import math
import unittest
from fractions import Fraction

from drawarms.arcs import arc_holds, arc_lies_in, arc_round, arcs_share, reaches_arc
from drawarms.arms import arm_map
from drawarms.curves import curve_lies_in, is_closed, is_curve, is_on, is_simple, led_curve, parts, reaches_curve
from drawarms.errors import InvalidArm, InvalidCurve, InvalidMap, InvalidPlace, NotALot, NotClosed, NotSimple, OnCurve
from drawarms.inside import is_bounded
from drawarms.lots import Lot, disc_tree, holds, rest, ring_tree
from drawarms.maps import back, led_place, map_of, mirror_in
from tests.lotsamples import ALL, NONE, rich_lots, tree_with
from tests.oracles import winding
from tests.support import BIG, FAR, PLACES, RING, SIDE, STAYS, WRONG_ARCS, WRONG_CELLS, WRONG_LOTS, WRONG_MAPS, WRONG_PLACES
from tests.support import ArgumentCase, Samples, Value, indexes_of_wrong, place_with, round_of_circle, value_of

BOW, BOWL = ((2, 0, 1), (0, 2, 1), (-2, 0, 1)), ((-2, 0, 1), (0, -2, 1), (2, 0, 1))
CIRCLE = (BOW, BOWL)
SQUARE = (((0, 0, 1), (1, 0, 2), (1, 0, 1)), ((1, 0, 1), (2, 1, 2), (1, 1, 1)), ((1, 1, 1), (1, 2, 2), (0, 1, 1)),
          ((0, 1, 1), (0, 1, 2), (0, 0, 1)))
LINE = (((0, 0, 1), (1, 0, 1), FAR), (FAR, (-1, 0, 1), (0, 0, 1)))
THERE_AND_BACK = (BOW, BOW[::-1])
TURNABOUT, CARRY, MIRROR = ("turnabout", (0, 0, 1), (4, 1), RING), ("carry", (1, 0, 1)), ("mirror", (0, 1, -1, 0))


def straight(*places):
    """The curve of straight arcs from place to place, none of them far."""
    return tuple((begin, place_with((value_of(begin) + value_of(end)) * Value(Fraction(1, 2))), end)
                 for begin, end in zip(places, places[1:]))


def backward(curve):
    return tuple(arc[::-1] for arc in reversed(curve))


# Nine arcs that begin each where the one before it ends.
NINE = straight(*[(at, at % 2, 1) for at in range(10)])
EIGHT_CORNERS = [(3, 0, 1), (2, 2, 1), (0, 3, 1), (-2, 2, 1), (-3, 0, 1), (-2, -2, 1), (0, -3, 1), (2, -2, 1), (3, 0, 1)]
ROUNDED = (((0, 0, 1), (1, -1, 1), (2, 0, 1)), ((2, 0, 1), (3, 1, 1), (2, 2, 1)), ((2, 2, 1), (1, 1, 1), (0, 2, 1)),
           ((0, 2, 1), (-1, 1, 1), (0, 0, 1)))
EIGHT_SHAPED = straight((0, 0, 1), (2, 2, 1), (2, 0, 1), (0, 2, 1), (0, 0, 1))
TOUCHING = (((-2, 0, 1), (0, 2, 1), (2, 0, 1)), ((2, 0, 1), (2, 2, 1), (2, 3, 1)), ((2, 3, 1), (0, 2, 1), (-2, 3, 1)))
# A curve, then whether it is closed and whether it is simple.
TOLD = [
    (CIRCLE, True, True), (backward(CIRCLE), True, True), (SQUARE, True, True), (LINE, True, True), (ROUNDED, True, True),
    ((BOW,), False, True), (THERE_AND_BACK, True, False), ((BOW, ((-2, 0, 1), (0, 2, 1), (0, -2, 1))), False, False),
    ((BOW, BOWL, BOW), False, False), ((BOW, BOWL, BOW, BOWL), True, False), (EIGHT_SHAPED, True, False),
    (EIGHT_SHAPED[:3], False, False), (EIGHT_SHAPED[:2], False, True), (TOUCHING, False, False), (TOUCHING[:2], False, True),
    (TOUCHING + (((-2, 3, 1), (-2, 1, 1), (-2, 0, 1)),), True, False), (NINE[:8], False, True), (SQUARE[:3], False, True),
    (straight(*EIGHT_CORNERS), True, True), ((BOW, ((-2, 0, 1), (-6, -8, 5), (0, -2, 1)),
    ((0, -2, 1), (6, -8, 5), (2, 0, 1))), True, True),
    ((BOW, ((-2, 0, 1), (0, 0, 1), (2, 0, 1))), True, True), ((BOW, ((-2, 0, 1), FAR, (2, 0, 1))), True, True),
    ((BOW, ((-2, 0, 1), FAR, (3, 0, 1))), False, True), ((BOW, ((-2, 0, 1), (-1, 0, 1), (3, 0, 1))), False, False),
    ((BOW, ((-2, 0, 1), FAR, (1, 0, 1))), False, False), (LINE + LINE, True, False),
    (LINE + (((0, 0, 1), (0, 1, 1), FAR),), False, False),
    (straight((0, 0, 1), (1, 0, 1), (2, 0, 1), (2, 1, 1), (1, 0, 1), (0, 0, 1)), True, False),
    (straight((0, 0, 1), (2, 0, 1), (2, 1, 1), (1, 0, 1), (0, 1, 1), (0, 0, 1)), True, False),
    (straight((0, 0, 1), (2, 0, 1), (1, 0, 1)), False, False), (straight((0, 0, 1), (2, 0, 1), (0, 0, 1)), True, False),
    (straight((0, 0, 1), (1, 0, 1), (1, 1, 1), (0, 0, 1), (-1, -1, 1)), False, False),
]


def star(samples, corners):
    """A closed curve of straight arcs round 0, ascending by angle."""
    while True:
        places = sorted({samples.ratio(5) for _ in range(corners)}, key=lambda place: math.atan2(place[1], place[0]))
        if (0, 0, 1) not in places and len({math.atan2(place[1], place[0]) for place in places}) == corners:
            curve = straight(*places, places[0])
            if is_simple(curve):
                return curve


class Curves(ArgumentCase):
    def test_is_curve(self):
        samples = Samples(130)
        for curve in [curve for curve, *_ in TOLD] + [samples.curve(many) for many in range(1, 9)]:
            self.assertIs(is_curve(curve), True)
            self.assertIs(is_curve(value=curve), True)
        for value, _ in indexes_of_wrong(NINE, WRONG_ARCS, 8) + [((), None), (BOW, None), ((BOW, BOW), 1),
            (CIRCLE[::-1][:1] * 2, 1)]:
            self.assertIs(is_curve(value), False)
            self.assertIs(is_curve(value=value), False)

    def test_closed_and_simple(self):
        for curve, closed, simple in TOLD:
            for one in (curve, backward(curve)):
                self.same_by_name(is_closed, {"curve": one}, closed)
                self.same_by_name(is_simple, {"curve": one}, simple)

    def test_simple_curves_by_the_places_that_arcs_share(self):
        samples = Samples(131)
        found = []
        for _ in range(300):
            curve = samples.curve(samples.choice((1, 2, 2, 3, 4)))
            if samples.whole() > 0 and curve[-1][2] != curve[0][0]:
                over = [place for place in PLACES if place not in (curve[-1][2], curve[0][0])][samples.choice((0, 1, 2, 3))]
                curve += ((curve[-1][2], over, curve[0][0]),)
            closed, many = curve[0][0] == curve[-1][2], len(curve)
            simple = True
            for first, second in itertools.combinations(range(many), 2):
                joints = (second == first + 1) + (closed and first == 0 and second == many - 1)
                simple = simple and arcs_share(curve[first], curve[second]) == joints
            self.same_by_name(is_closed, {"curve": curve}, closed)
            self.same_by_name(is_simple, {"curve": curve}, simple)
            chart = samples.chart()
            self.assertEqual((is_closed(led_curve(chart, curve)), is_simple(led_curve(chart, curve))), (closed, simple))
            found.append((closed, simple))
        self.assertGreater(min(found.count(pair) for pair in itertools.product((True, False), repeat=2)), 20)

    def test_led_curves(self):
        self.same_by_name(led_curve, {"chart": mirror_in((1, 0, 0, -4)), "curve": CIRCLE}, CIRCLE)
        samples = Samples(132)
        for _ in range(100):
            chart, curve = samples.chart(), samples.curve(samples.choice((1, 2, 5, 8)))
            led = tuple(tuple(led_place(chart, place) for place in arc) for arc in curve)
            self.same_by_name(led_curve, {"chart": chart, "curve": curve}, led)
            for place in PLACES[:8] + [arc[1] for arc in curve]:
                self.assertEqual(is_on(led, led_place(chart, place)), is_on(curve, place))
            self.assertEqual(led_curve(back(chart), led), curve)

    def test_places_on_curves(self):
        for curve, place, expected in [
            (CIRCLE, (6, -8, 5), True), (CIRCLE, (0, 0, 1), False), ((BOW,), (6, -8, 5), False), (LINE, FAR, True),
            (SQUARE, FAR, False),
            (SQUARE, (0, 1, 7), True), (SQUARE, (1, 1, 1), True), (SQUARE, (-1, 0, 7), False), (SQUARE, (1, 1, 7), False),
        ]:
            self.same_by_name(is_on, {"curve": curve, "place": place}, expected)
        samples = Samples(133)
        for _ in range(60):
            curve = samples.curve(samples.choice((1, 3, 8)))
            for place in PLACES[:6] + [arc[at] for arc in curve for at in (0, 1, 2)]:
                self.assertEqual(is_on(curve, place), any(arc_holds(arc, place) for arc in curve))

    def test_wrong_curves(self):
        told = indexes_of_wrong(NINE, WRONG_ARCS, 8) + [
            ((), None), (BOW, 0), ((BOW, BOW), 1), ((BOW, BOWL, BOWL), 2), ((BOW, (BOW[2],) + BOWL[1:], BOW[::-1]), 2),
            (NINE[:3] + NINE[4:], 3),
            (CIRCLE * 4 + (BOW,), 8), (CIRCLE * 4 + (None,), 8), ((BOW, None, BOWL), 1), ((BOW, BOW, None), 1),
        ]
        for function, more in [
            (is_closed, {}), (is_simple, {}), (is_on, {"place": FAR}), (parts, {"place": FAR, "other": FAR}),
            (curve_lies_in, {"lot": Lot(SIDE)}),
        ]:
            self.check_indexes(InvalidCurve, function, {"curve": CIRCLE, **more}, "curve", told)
        self.check_indexes(InvalidCurve, led_curve, {"chart": STAYS, "curve": CIRCLE}, "curve", told)
        self.check_indexes(InvalidCurve, reaches_curve, {"arm": (), "curve": CIRCLE}, "curve", told)

    def test_other_wrong_arguments(self):
        curve = (InvalidCurve, [])
        self.check_all_given(led_curve, {"chart": STAYS, "curve": CIRCLE}, {"chart": (InvalidMap, WRONG_MAPS), "curve": curve})
        self.check_all_given(curve_lies_in, {"curve": CIRCLE, "lot": Lot(SIDE)}, {"curve": curve, "lot": (NotALot, WRONG_LOTS)})
        place = (InvalidPlace, WRONG_PLACES)
        self.check_all_given(is_on, {"curve": CIRCLE, "place": FAR}, {"curve": curve, "place": place})
        for one in (CIRCLE, (BOW,), EIGHT_SHAPED):
            self.check_all_given(parts, {"curve": one, "place": FAR, "other": FAR},
                {"curve": curve, "place": place, "other": place})
        arms = indexes_of_wrong((CARRY, TURNABOUT, MIRROR, CARRY, CARRY), WRONG_CELLS, 4)
        self.check_indexes(InvalidArm, reaches_curve, {"arm": (), "curve": CIRCLE}, "arm", arms)
        self.assertEqual(self.raised(InvalidArm, reaches_curve, (None,), None).index, 0)


class InLotsAndReaches(ArgumentCase):
    def test_told_ones(self):
        ring = Lot(ring_tree((0, 0, 1), RING))
        for curve, lot, expected in [
            (CIRCLE, ring, True), (CIRCLE, Lot(("rim", (1, 0, 0, -4))), True), ((BOW,), Lot(("side", (0, 0, 1, 0))), True),
            (CIRCLE, Lot(("side", (0, 0, 1, 0))), False), (LINE, Lot(ALL), True), (LINE, Lot(("rim", (0, 0, 1, 0))), True),
            (LINE, Lot(("not", ("rim", (0, 0, 1, -1)))), False), (SQUARE, Lot(disc_tree((1, 1, 2), (1, 2))), True),
            (SQUARE, Lot(disc_tree((1, 1, 2), (49, 100))), False), (SQUARE, Lot(NONE), False),
        ]:
            self.same_by_name(curve_lies_in, {"curve": curve, "lot": lot}, expected)
            self.same_by_name(curve_lies_in, {"curve": backward(curve), "lot": lot}, expected)
        for arm, curve, expected in [
            ((TURNABOUT,), CIRCLE, True), ((TURNABOUT,), SQUARE, False), ((), LINE, True), ((CARRY, MIRROR), LINE, True),
            ((TURNABOUT,), LINE, False), ((TURNABOUT, CARRY), CIRCLE, True), ((CARRY, TURNABOUT), CIRCLE, True),
            ((CARRY, CARRY, TURNABOUT), CIRCLE, False),
        ]:
            self.same_by_name(reaches_curve, {"arm": arm, "curve": curve}, expected)

    def test_all_arcs(self):
        samples = Samples(134)
        many = 0
        for lot in rich_lots(135, 300):
            curve, arm = samples.curve(samples.choice((1, 2, 3))), samples.arm(1)
            expected = all(arc_lies_in(arc, lot) for arc in curve)
            self.same_by_name(curve_lies_in, {"curve": curve, "lot": lot}, expected)
            self.assertFalse(expected and curve_lies_in(curve, rest(lot)))
            self.same_by_name(reaches_curve, {"arm": arm, "curve": curve}, all(reaches_arc(arm, arc) for arc in curve))
            many += expected
        self.assertGreater(many, 40)

    def test_the_curve_does_not_count(self):
        eight = Lot(("and", tuple(("side", (-1, 0, 0, 5 + at)) for at in range(8))))
        self.assertIs(curve_lies_in(CIRCLE, eight), True)
        self.assertIs(curve_lies_in(SQUARE, Lot(tree_with([round_of_circle(at + 40) for at in range(8)]))), True)


class Parts(ArgumentCase):
    def test_told_ones(self):
        for curve, place, other, expected in [
            (CIRCLE, (0, 0, 1), FAR, True), (CIRCLE, (0, 0, 1), (1, 0, 1), False), (CIRCLE, (0, 0, 1), (3, 0, 1), True),
            (CIRCLE, (3, 0, 1), FAR, False), (CIRCLE, (3, 0, 1), (-3, 0, 1), False), (CIRCLE, FAR, FAR, False),
            (CIRCLE, (1, 1, 1), (1, 1, 1), False), (SQUARE, (1, 1, 2), (2, 1, 1), True), (SQUARE, (1, 1, 2), (3, 1, 4), False),
            (SQUARE, (-1, 0, 1), (2, 0, 1), False), (SQUARE, (-1, 1, 1), (2, 1, 1), False),
            (SQUARE, (-1, -1, 1), (1, 1, 2), True),
            (LINE, (0, 1, 1), (0, -1, 1), True), (LINE, (0, 1, 1), (5, 1, 1), False), (LINE, (5, 1, BIG), (5, -1, BIG), True),
            ((BOW, ((-2, 0, 1), FAR, (2, 0, 1))), (0, 0, 1), (0, -BIG, 1), False),
            ((BOW, ((-2, 0, 1), FAR, (2, 0, 1))), (0, 0, 1), (0, 3, 1), True), (ROUNDED, (1, 0, 1), (1, 3, 1), True),
            (ROUNDED, (1, 0, 1), (1, 3, 2), True), (ROUNDED, (1, 0, 1), (2, 1, 1), False),
            (ROUNDED, (1, 3, 2), (1, -2, 1), False),
        ]:
            for one in (curve, backward(curve), curve[1:] + curve[:1]):
                self.same_by_name(parts, {"curve": one, "place": place, "other": other}, expected)
                self.same_by_name(parts, {"curve": one, "place": other, "other": place}, expected)

    def test_by_winding(self):
        samples = Samples(136)
        found = []
        curves = [star(samples, corners) for corners in (3, 4, 5, 6, 7, 8)] + [ROUNDED, straight(*EIGHT_CORNERS)]
        for curve in curves:
            circles = [arc_round(arc) for arc in curve]
            places = [place for place in [samples.ratio(5) for _ in range(8)] + [(0, 0, 1)] if not is_on(curve, place)]
            windings = [winding(curve, circles, place) for place in places]
            for first, second in itertools.combinations(range(len(places)), 2):
                expected = windings[first] % 2 != windings[second] % 2
                self.same_by_name(parts, {"curve": curve, "place": places[first], "other": places[second]}, expected)
                found.append(expected)
            for place, turned in zip(places, windings):
                self.same_by_name(parts, {"curve": curve, "place": place, "other": FAR}, turned % 2 == 1)
        self.assertGreater(min(found.count(True), found.count(False)), 40)

    def test_maps_keep_the_pieces(self):
        samples = Samples(137)
        for curve in [CIRCLE, SQUARE, LINE, ROUNDED, straight(*EIGHT_CORNERS)] * 4:
            chart = samples.chart()
            places = [place for place in [samples.place(4) for _ in range(5)] + [FAR] if not is_on(curve, place)]
            for place, other in itertools.product(places, repeat=2):
                moved = [led_place(chart, one) for one in (place, other)]
                self.assertEqual(parts(led_curve(chart, curve), *moved), parts(curve, place, other))

    def test_there_are_just_two_pieces(self):
        samples = Samples(138)
        for _ in range(15):
            curve = led_curve(samples.chart(), star(samples, samples.choice((3, 5, 8))))
            places = [place for place in [samples.place(4) for _ in range(7)] if not is_on(curve, place)]
            for first, second, third in itertools.combinations(places, 3):
                many = parts(curve, first, second) + parts(curve, second, third) + parts(curve, first, third)
                self.assertIn(many, (0, 2))

    def test_circles_part_by_their_sides(self):
        lot = Lot(("side", (-1, 0, 0, 4)))
        for place, other in itertools.product(PLACES, repeat=2):
            if not is_on(CIRCLE, place) and not is_on(CIRCLE, other):
                self.assertEqual(parts(CIRCLE, place, other), holds(lot, place) != holds(lot, other))
        self.assertIs(is_bounded(lot), True)

    def test_great_numbers(self):
        chart = map_of(0, (BIG, 1), (3, BIG), (1, 0), (BIG, 7))
        self.assertIs(parts(led_curve(chart, SQUARE), led_place(chart, (1, 1, 2)), led_place(chart, FAR)), True)
        self.assertIs(parts(led_curve(chart, SQUARE), led_place(chart, (1, 1, BIG)), led_place(chart, (1, 1, 2))), False)
        self.assertIs(parts(SQUARE, (1, 1, BIG), (-1, 1, BIG)), True)
        self.assertEqual(self.raised(OnCurve, parts, SQUARE, (1, 1, BIG), (1, 0, BIG)).given, (1, 0, BIG))

    def test_last_errors(self):
        for curve in ((BOW,), SQUARE[:3], EIGHT_SHAPED[:3]):
            for place in ((2, 0, 1), (0, 0, 1), FAR):
                self.raised(NotClosed, parts, curve, place, FAR)
                self.raised(NotClosed, parts, curve=curve, place=place, other=(0, 0, 1))
        for curve in (THERE_AND_BACK, EIGHT_SHAPED, CIRCLE * 2):
            for place in ((2, 0, 1), (0, 0, 1), FAR):
                self.raised(NotSimple, parts, curve, place, FAR)
                self.raised(NotSimple, parts, curve=curve, place=place, other=(0, 0, 1))
        on, off = (6, 8, 5), (1, 1, 1)
        for place, other, given in ((on, off, on), (off, on, on), (on, (2, 0, 1), on), ((2, 0, 1), on, (2, 0, 1)), (on, on, on)):
            self.assertEqual(self.raised(OnCurve, parts, CIRCLE, place, other).given, given)
            self.assertEqual(self.raised(OnCurve, parts, curve=CIRCLE, place=place, other=other).given, given)
        self.assertEqual(self.raised(OnCurve, parts, LINE, (0, 1, 1), FAR).given, FAR)
        self.raised(InvalidPlace, parts, (BOW,), FAR, None)


class AllPlaces(ArgumentCase):
    def test_arms_lead_curves(self):
        arm = (TURNABOUT, CARRY, MIRROR)
        led = led_curve(arm_map(arm), CIRCLE)
        self.assertTrue(is_closed(led) and is_simple(led) and reaches_curve(arm, CIRCLE))
        for place in ((6, 8, 5), (2, 0, 1), (-8, 6, 5)):
            self.assertTrue(is_on(led, led_place(arm_map(arm), place)))


if __name__ == "__main__":
    unittest.main()
