"""Promise [24], and [2] for all curves: where maps agree, and on which places arms draw alike."""

import itertools
import unittest

from drawarms.alike import agree_at, agree_on, agreement, alike, alike_together, draw_alike, mirror_round, parting_drawing
from drawarms.arcs import arc_round
from drawarms.arms import arm_map, lets, pen_of
from drawarms.curves import reaches_curve
from drawarms.errors import InvalidArm, InvalidCurve, InvalidMap, InvalidPlace, InvalidRound, TooMany
from drawarms.inside import is_empty, is_open_somewhere
from drawarms.kinds import kind_of, staying
from drawarms.lots import both
from drawarms.maps import after, back, led_place, led_round, map_of, mirror_in
from drawarms.places import is_place
from drawarms.reach import reach_lot, reaches_nothing, same_reach
from drawarms.rounds import value_at
from drawarms.triples import mirrored_through, plain_through
from tests.support import BIG, FAR, PLACES, ROUNDS, STAYS, WRONG_ARCS, WRONG_CELLS, WRONG_MAPS, WRONG_PLACES
from tests.support import WRONG_ROUNDS, ArgumentCase, Samples, indexes_of_wrong

SPIN, SLIDE = map_of(0, (0, 1), (0, 0), (0, 0), (1, 0)), map_of(0, (1, 0), (1, 0), (0, 0), (1, 0))
ZERO, UNIT, BARE, FLAT = (0, 0, 1), (1, 0, 0, -1), (1, 0, 0, -3), (0, 0, 1, 0)
CARRY, MIRROR = ("carry", (1, 0, 1)), ("mirror", (0, 1, -1, 0))
WIDE = ((1, 10 ** 9), (10 ** 9, 1))
WRONG_ARMS = indexes_of_wrong((CARRY, MIRROR, CARRY, MIRROR, CARRY), WRONG_CELLS, 4)
FOUR = tuple(("grow", (3 * at, at, 1), (2, 1, 1), ((1, 10), (10 ** 6, 1))) for at in range(4))


def doubling(pole, low, high):
    return ("grow", pole, (2, 0, 1), (low, high))


def halving(pole, low, high):
    return ("grow", pole, (1, 0, 2), (low, high))


def on_circle(pole, square):
    """Two cells whose map stays and that reach just the circle about a pole with this square of the radius."""
    return (doubling(pole, (1, 100), (square, 1)), halving(pole, (4 * square, 1), (4 * square + 1, 1)))


def turning(power):
    return ("turnabout", ZERO, (power, 1), WIDE)


NEAR = (("turnabout", ZERO, (4, 1), ((4, 1), (9, 1))),)
FAR_OFF = (("grow", ZERO, (-1, 0, 1), ((1, 1), (4, 1))),) * 2
BOW, BOWL = ((2, 0, 1), (0, 2, 1), (-2, 0, 1)), ((-2, 0, 1), (0, -2, 1), (2, 0, 1))
NOTHING = (doubling(ZERO, (1, 1), (2, 1)),) * 2


def agree_by_words(chart, other, place):
    return led_place(chart, place) == led_place(other, place)


class Agreements(ArgumentCase):
    def test_told_ones(self):
        for chart, other, expected in [
            (SPIN, SLIDE, ("places", 2, ((-1, -1, 2), FAR))), (mirror_in(UNIT), STAYS, ("round", UNIT)),
            (SLIDE, STAYS, ("places", 1, (FAR,))),
            (map_of(0, (0, 0), (3, 0), (1, 0), (0, 0)), STAYS, ("places", 2, ())), (SPIN, SPIN, ("all",)),
            (mirror_in(BARE), STAYS, ("round", BARE)), (mirror_in(UNIT), mirror_in((1, 0, 0, -4)),
            ("places", 2, ((0, 0, 1), FAR))),
            (mirror_in(UNIT), mirror_in(FLAT), ("places", 2, ((-1, 0, 1), (1, 0, 1)))),
            (map_of(1, (0, 0), (-1, 0), (1, 0), (0, 0)), STAYS, ("places", 0, ())),
            (map_of(1, (1, 0), (1, 0), (0, 0), (1, 0)), STAYS, ("places", 1, (FAR,))),
            (map_of(1, (2, 0), (0, 0), (0, 0), (1, 0)), STAYS, ("places", 2, ((0, 0, 1), FAR))),
            (map_of(1, (0, 0), (1, 1), (1, 0), (0, 0)), STAYS, ("places", 0, ())),
        ]:
            self.same_by_name(agreement, {"chart": chart, "other": other}, expected)
            self.same_by_name(agreement, {"chart": other, "other": chart}, expected)

    def test_places_that_both_lead_alike(self):
        samples = Samples(140)
        found = []
        for _ in range(400):
            chart, other = samples.chart(samples.choice((2, 5, BIG))), samples.chart(2)
            other = samples.choice((other, after(chart, mirror_in(samples.circle(3))), after(chart, other), chart))
            word, *more = agreement(chart, other)
            found.append((word, more[0] if word == "places" else None))
            for place in PLACES + list(more[1] if word == "places" else ()):
                expected = word == "all" or (word == "round" and value_at(more[0], place) == 0)
                expected = expected or (word == "places" and place in more[1])
                self.assertEqual(agree_by_words(chart, other, place), expected)
            if word == "places":
                self.assertEqual(more[1], tuple(sorted(set(more[1]))))
                self.assertLessEqual(len(more[1]), more[0])
                self.assertEqual(more[0], staying(after(back(other), chart)))
        for told in (("all", None), ("round", None), ("places", 0), ("places", 1), ("places", 2)):
            self.assertGreater(found.count(told), 2, told)

    def test_maps_that_agree_at_two_told_places(self):
        samples = Samples(141)
        for _ in range(100):
            first, second, third, fourth = samples.places(4, 4)
            chart = samples.chart()
            for through in (plain_through, mirrored_through):
                between = through((first, second, third), (first, second, fourth))
                told = agreement(after(chart, between), chart)
                if kind_of(between) == "mirror":
                    self.assertEqual(told, ("round", mirror_round(between)))
                else:
                    self.assertEqual(told, ("places", 2, tuple(sorted((first, second)))))

    def test_agree_on(self):
        for chart, other, circle, expected in [
            (SPIN, SPIN, UNIT, True), (mirror_in(UNIT), STAYS, UNIT, True), (mirror_in(UNIT), STAYS, BARE, False),
            (mirror_in(BARE), STAYS, BARE, True), (SLIDE, STAYS, FLAT, False), (after(SPIN, mirror_in(FLAT)), SPIN, FLAT, True),
            (after(mirror_in(FLAT), SPIN), SPIN, FLAT, False), (after(mirror_in(FLAT), SPIN), SPIN, (0, 1, 0, 0), True),
        ]:
            self.same_by_name(agree_on, {"chart": chart, "other": other, "circle": circle}, expected)
        samples = Samples(142)
        for _ in range(100):
            chart, circle = samples.chart(), samples.circle(4)
            other = samples.choice((samples.chart(), after(chart, mirror_in(circle))))
            expected = agreement(chart, other) == ("round", circle)
            self.same_by_name(agree_on, {"chart": chart, "other": other, "circle": circle}, expected)

    def test_mirror_round(self):
        samples = Samples(143)
        for circle in ROUNDS + [samples.circle(samples.choice((2, 9, BIG))) for _ in range(100)]:
            self.same_by_name(mirror_round, {"chart": mirror_in(circle)}, circle)
            chart = samples.chart()
            moved = after(chart, after(mirror_in(circle), back(chart)))
            self.same_by_name(mirror_round, {"chart": moved}, led_round(chart, circle))
        for chart in [STAYS, SPIN, SLIDE, map_of(1, (0, 0), (-1, 0), (1, 0), (0, 0)), map_of(1, (1, 0), (1, 0), (0, 0), (1, 0))]:
            self.same_by_name(mirror_round, {"chart": chart}, None)
        for _ in range(100):
            chart = samples.chart()
            circle = mirror_round(chart)
            self.assertEqual(circle is None, kind_of(chart) != "mirror")

    def test_wrong_arguments(self):
        wrong = (InvalidMap, WRONG_MAPS)
        self.check_all_given(agreement, {"chart": SPIN, "other": SLIDE}, {"chart": wrong, "other": wrong})
        wrongs = {"chart": wrong, "other": wrong, "circle": (InvalidRound, WRONG_ROUNDS)}
        self.check_all_given(agree_on, {"chart": SPIN, "other": SLIDE, "circle": UNIT}, wrongs)
        self.check_all_given(mirror_round, {"chart": SPIN}, {"chart": wrong})


class AgreeingAt(ArgumentCase):
    def test_told_ones(self):
        for arm, other, place, expected in [
            (NEAR, FAR_OFF, (2, 0, 1), True), (NEAR, FAR_OFF, (1, 0, 1), False), (NEAR, FAR_OFF, FAR, False),
            ((), (), FAR, False),
            ((), (), ZERO, True), ((), (CARRY,), ZERO, False), ((), (MIRROR,), (1, 1, 1), True),
            ((), (MIRROR,), (1, 0, 1), False),
            ((CARRY,), (CARRY,) + NEAR, ZERO, False), (NEAR, NEAR, ZERO, False), (NEAR, NEAR, (0, 3, 1), True),
        ]:
            self.same_by_name(agree_at, {"arm": arm, "other": other, "place": place}, expected)
            self.same_by_name(agree_at, {"arm": other, "other": arm, "place": place}, expected)

    def test_by_the_words(self):
        samples = Samples(144)
        many = 0
        for _ in range(300):
            arm = samples.arm(2)
            other = samples.choice((samples.arm(2), arm + (MIRROR, MIRROR), (MIRROR,) + arm))
            for place in PLACES[:12]:
                expected = lets(arm, place) and lets(other, place) and pen_of(arm, place) == pen_of(other, place)
                self.same_by_name(agree_at, {"arm": arm, "other": other, "place": place}, expected)
                many += expected
        self.assertGreater(many, 100)

    def test_rounds_are_not_counted(self):
        other = tuple(("grow", cell[1], cell[2], ((1, 10), (10 ** 5, 1))) for cell in FOUR)
        self.assertIs(agree_at(FOUR, other, (1, 0, 1)), lets(FOUR, (1, 0, 1)) and lets(other, (1, 0, 1)))
        self.assertIs(draw_alike(FOUR, other, (((8, 8, 1), (9, 8, 1), (9, 9, 1)),)), True)
        self.assertIs(draw_alike(FOUR[:3], other, (((8, 8, 1), (9, 8, 1), (9, 9, 1)),)), False)

    def test_wrong_arguments(self):
        arm = (InvalidArm, [])
        self.check_all_given(agree_at, {"arm": NEAR, "other": NEAR, "place": FAR},
            {"arm": arm, "other": arm, "place": (InvalidPlace, WRONG_PLACES)})
        for name in ("arm", "other"):
            self.check_indexes(InvalidArm, agree_at, {"arm": NEAR, "other": NEAR, "place": FAR}, name, WRONG_ARMS)


class Together(ArgumentCase):
    def told(self, arm, other, expected):
        for first, second in ((arm, other), (other, arm)):
            self.same_by_name(alike_together, {"arm": first, "other": second}, expected)
            self.same_by_name(alike, {"arm": first, "other": second}, expected and same_reach(arm, other))

    def test_open_ones(self):
        for arm, other, expected in [
            ((), (), True), ((), (CARRY,), False), ((MIRROR,), (), False), ((MIRROR, MIRROR), (), True), ((), NEAR, False),
            ((CARRY,), (CARRY,) + NOTHING, True), ((), NOTHING, True), (NOTHING, NOTHING, True), (FOUR, FOUR, True),
            ((CARRY, ("carry", (-1, 0, 1))), (), True), (FAR_OFF, (), True), (FAR_OFF, (CARRY, ("carry", (-1, 0, 1))), True),
            (NEAR, (CARRY, ("carry", (-1, 0, 1))), False),
        ]:
            self.told(arm, other, expected)

    def test_a_circle(self):
        self.told(NEAR, FAR_OFF, True)
        self.assertIs(alike(NEAR, FAR_OFF), False)
        self.told(NEAR, on_circle(ZERO, 4), True)
        self.told(NEAR, on_circle(ZERO, 5), False)
        # All places of this circle are not whole.
        self.told(on_circle(ZERO, 3), (turning(3),), True)
        self.told(on_circle(ZERO, 3), (turning(-3),), False)
        self.told(on_circle(ZERO, 3), (turning(4),), False)
        self.told(on_circle(ZERO, 3), on_circle(ZERO, 3) + (turning(3),), True)
        self.assertIs(alike(on_circle(ZERO, 3), on_circle(ZERO, 3) + (turning(3),)), True)
        self.assertIs(alike(on_circle(ZERO, 3), on_circle(ZERO, 3) + (turning(2),)), False)
        self.told(on_circle(ZERO, 3), (turning(3), MIRROR), False)

    def test_arcs(self):
        # Of the circle that the first arm reaches the other one reaches but a part.
        for pole in ((1, 0, 1), (0, 1, 2), (-3, 1, 2)):
            half = (("grow", pole, (-1, 0, 1), ((2, 1), (9, 1))),) * 2
            self.told(on_circle(ZERO, 3), half + (turning(3),), True)
            self.told(on_circle(ZERO, 3), half + (turning(5),), False)
            self.told(on_circle(ZERO, 3), half + (MIRROR,), False)

    def test_two_places_that_are_not_whole(self):
        # Both circles meet at i times the roots of 3, which z to -3 / z keeps.
        first, second = on_circle(ZERO, 3), on_circle((1, 0, 1), 4)
        lot = both(reach_lot(first), reach_lot(second))
        self.assertFalse(is_empty(lot) or is_open_somewhere(lot))
        for more, expected in [
            ((turning(-3), ("mirror", FLAT)), True), ((turning(-2), ("mirror", FLAT)), False),
            ((turning(-3), ("mirror", (0, 1, 0, 0))), False),
            ((turning(3),), True), ((turning(-3),), False), ((turning(2),), False), ((("mirror", (0, 1, 0, 0)),), True),
            ((("mirror", FLAT),), False), ((turning(3), ("mirror", (0, 1, 0, 0))), True), ((turning(3), ("mirror", FLAT)), False),
            ((), True), ((CARRY,), False), ((("grow", ZERO, (-1, 0, 1), WIDE),), False),
        ]:
            self.told(first, second + more, expected)
            self.told(first + more[:2], second, expected)

    def test_two_places_that_are_not_whole_anywhere(self):
        # The first circle is that about 1 + 2 i; the meetings are 1 + 2 i and the roots of 3, once up and down, once across.
        pole, wide = (1, 2, 1), ((1, 10 ** 9), (10 ** 9, 1))
        for beside, across, along in [((2, 2, 1), (0, 1, 0, -1), (0, 0, 1, -2)), ((1, 3, 1), (0, 0, 1, -2), (0, 1, 0, -1))]:
            first, second = on_circle(pole, 3), on_circle(beside, 4)
            for more, expected in [
                ((("turnabout", pole, (-3, 1), wide), ("mirror", along)), True),
                ((("turnabout", pole, (-3, 1), wide), ("mirror", across)), False),
                ((("turnabout", pole, (3, 1), wide), ("mirror", across)), True),
                ((("turnabout", pole, (3, 1), wide), ("mirror", along)), False),
                ((("turnabout", pole, (-2, 1), wide), ("mirror", along)), False), ((("mirror", across),), True),
                ((("mirror", along),), False),
                ((("turnabout", pole, (3, 1), wide),), True), ((("turnabout", pole, (-3, 1), wide),), False),
                ((CARRY, CARRY), False),
                ((("turnabout", beside, (4, 1), wide),), True), ((("turnabout", beside, (3, 1), wide),), False),
                ((("grow", pole, (-1, 0, 1), wide),), False), ((("turnabout", pole, (-3, 1), wide), ("carry", (2, 0, 1))), False),
            ]:
                self.told(first, second + more, expected)
                self.told(second, first + more, expected)

    def test_mirrored_maps_that_keep_two_places_that_are_not_whole(self):
        # The turnabout at 2 with the power -1, then 4 less, keeps the roots of 3 alone; likewise with i times these.
        for pole, beside, turn, shift in [
            ((0, 0, 1), (1, 0, 1), (0, 2, 1), (0, -4, 1)), ((0, 0, 1), (0, 1, 1), (2, 0, 1), (-4, 0, 1)),
            ((1, 2, 1), (2, 2, 1), (1, 4, 1), (0, -4, 1)), ((1, 2, 1), (1, 3, 1), (3, 2, 1), (-4, 0, 1)),
        ]:
            first, second = on_circle(pole, 3), on_circle(beside, 4)
            for power, moved, expected in [(-1, shift, True), (-2, shift, False), (1, shift, False), (-1, (shift[0], shift[1] - 1, 1), False),
                                           (-1, (shift[0] + 1, shift[1], 1), False)]:
                more = (("turnabout", turn, (power, 1), WIDE), ("carry", moved))
                between = after(back(arm_map(second)), arm_map(first + more))
                self.assertTrue(not expected or (kind_of(between), agreement(between, STAYS)) == ("pulls", ("places", 2, ())))
                self.told(first, second + more, expected)
                self.told(first + more, second, expected)

    def test_one_place(self):
        # The circles touch at 2.
        first, second = on_circle(ZERO, 4), on_circle((5, 0, 1), 9)
        for more, expected in [
            (turning(4), True), (("mirror", FLAT), True), (CARRY, False),
            (("mirror", (0, 1, 0, -2)), True), (("grow", ZERO, (2, 0, 1), WIDE), False),
            (("turnabout", (5, 0, 1), (9, 1), WIDE), True),
        ]:
            self.told(first, second + (more,), expected)
        self.told(first, second, True)
        self.told(first, second + (turning(4), ("mirror", FLAT)), True)
        self.told(first, second + (turning(4), ("mirror", (0, 1, 0, 0))), False)
        # This one keeps the place alone, and its ring bars just this one; then nothing is left.
        self.told(first, second + (("grow", (2, 0, 1), (7, 1, 1), WIDE),), True)

    def test_one_whole_place_and_one_that_is_not_kept(self):
        # The circles meet at 1 + 2 i and 1 - 2 i.
        first, second = on_circle(ZERO, 5), on_circle((2, 0, 1), 5)
        self.told(first, second + (("mirror", (0, 1, 0, -1)),), True)
        self.told(first, second + (("mirror", FLAT),), False)
        one = plain_through(((1, 2, 1), (1, -2, 1), (0, 0, 1)), ((1, 2, 1), (1, -2, 1), (5, 0, 1)))
        self.assertEqual(agreement(one, STAYS), ("places", 2, ((1, -2, 1), (1, 2, 1))))

    def test_nothing_together(self):
        for more in ((), (CARRY,), (turning(7),), (MIRROR, turning(3))):
            self.told(on_circle(ZERO, 3) + more, on_circle(ZERO, 4), True)
            self.told(NOTHING + more, NEAR, True)
        self.assertIs(alike(NOTHING, NOTHING + (CARRY,)), True)
        self.assertIs(alike(NOTHING, NEAR), False)

    def test_samples(self):
        samples = Samples(145)
        found = []
        for _ in range(250):
            arm = samples.arm(2)
            other = samples.choice((samples.arm(2), arm + (MIRROR, MIRROR), arm + (CARRY, ("carry", (-1, 0, 1))), arm[:1]))
            lot = both(reach_lot(arm), reach_lot(other))
            same = arm_map(arm) == arm_map(other)
            if same or is_open_somewhere(lot) or is_empty(lot):
                self.told(arm, other, same or is_empty(lot))
                found.append(same)
            for place in (parting_drawing(arm, other), parting_drawing(arm=arm, other=other)):
                self.assertEqual(place is not None, is_open_somewhere(lot) and not same)
                if place is not None:
                    self.assertTrue(is_place(place) and place != FAR and lets(arm, place) and lets(other, place))
                    self.assertNotEqual(pen_of(arm, place), pen_of(other, place))
        self.assertGreater(min(found.count(True), found.count(False)), 60)

    def test_parting_drawings_beside_where_the_maps_agree(self):
        for other in [(MIRROR,), ("grow", ZERO, (2, 0, 1), WIDE), ("grow", (1, 0, 1), (2, 0, 1), WIDE), CARRY, ("mirror", FLAT),
                      ("mirror", (0, 1, 0, -1)), ("mirror", (0, 1, 0, -2)), turning(1), turning(-1)]:
            arm = other if isinstance(other[0], tuple) else (other,)
            for first in ((), (("mirror", (0, 1, 0, 0)),), NEAR):
                place = parting_drawing(first, arm)
                if is_open_somewhere(both(reach_lot(first), reach_lot(arm))):
                    self.assertTrue(lets(first, place) and lets(arm, place))
                    self.assertNotEqual(pen_of(first, place), pen_of(arm, place))
        self.assertIsNone(parting_drawing((), ()))
        self.assertIsNone(parting_drawing(NOTHING, (CARRY,)))
        self.assertIsNone(parting_drawing(NEAR, on_circle(ZERO, 5)))
        self.assertIsNone(parting_drawing((), (CARRY, ("carry", (-1, 0, 1)))))

    def test_great_numbers(self):
        shift = (("carry", (BIG, 1, 3)), ("carry", (-BIG, -1, 3)))
        self.told(on_circle((BIG, 1, 3), 3), shift, True)
        self.told(on_circle((BIG, 0, 1), 3), (("turnabout", (BIG, 0, 1), (3, 1), WIDE),), True)
        self.told(on_circle((BIG, 0, 1), 3), (("turnabout", (BIG, 0, 1), (10 ** 6, 333333), WIDE),), False)

    def test_too_many_rounds(self):
        other = tuple(("grow", cell[1], cell[2], ((1, 10), (10 ** 5, 1))) for cell in FOUR)
        for function in (alike_together, alike, parting_drawing):
            for first, second, given in ((FOUR, other, 12), (FOUR, NEAR, 10), (NEAR, FOUR, 10)):
                self.assertEqual(self.raised(TooMany, function, first, second).given, given)
                self.assertEqual(self.raised(TooMany, function, arm=first, other=second).given, given)
            function(FOUR, FOUR[:3])
            function((CARRY, MIRROR), FOUR)

    def test_nine_rounds_with_the_one_on_which_the_maps_agree(self):
        eight = FOUR[:3] + (("grow", (9, 3, 1), (2, 1, 1), ((1, 10), (10 ** 6, 1))),)
        self.assertEqual(len(reach_lot(eight).rounds), 8)
        mirrored = (MIRROR,) + tuple((word, (pole[1], pole[0], 1), (2, -1, 1), ring) for word, pole, _, ring in eight[:3])
        for other in (mirrored[:1], eight[:3]):
            self.assertIs(alike_together(eight, other), False)
            self.assertTrue(lets(eight, parting_drawing(eight, other)))

    def test_wrong_arms(self):
        for function in (alike_together, alike, parting_drawing):
            for name in ("arm", "other"):
                self.check_indexes(InvalidArm, function, {"arm": FOUR, "other": NEAR}, name, WRONG_ARMS)
            self.assertEqual(self.raised(InvalidArm, function, (CARRY, None), None).index, 1)


class Drawing(ArgumentCase):
    def test_told_ones(self):
        square = (((1, 1, 1), (2, 1, 1), (3, 1, 1)), ((3, 1, 1), (3, 2, 1), (3, 3, 1)))
        line = (((0, 0, 1), (1, 1, 1), FAR),)
        for arm, other, curve, expected in [
            (NEAR, FAR_OFF, (BOW, BOWL), True), (NEAR, FAR_OFF, (BOW,), True), ((), (), line, True), ((), (MIRROR,), line, True),
            ((), (CARRY,), line, False), (NEAR, NEAR, line, False), ((), (MIRROR,), (((0, 0, 1), (1, 0, 1), FAR),), False),
            ((), (MIRROR,), line + ((FAR, (-1, -1, 1), (0, 0, 1)),), True),
            ((), (MIRROR,), line + ((FAR, (-1, 0, 1), (0, 0, 1)),), False),
            ((), (MIRROR, MIRROR), square, True), ((), (turning(4),), (BOW, BOWL), True), ((), (turning(3),), (BOW, BOWL), False),
            ((CARRY,), (turning(4), CARRY), (BOW, BOWL), True), ((CARRY,), (CARRY,) + NOTHING[:1], (BOW,), False),
            (on_circle(ZERO, 4), (), (BOW, BOWL), True), (on_circle(ZERO, 4), (MIRROR,), (BOW, BOWL), False),
            (on_circle(ZERO, 4), (turning(4),), (BOW, BOWL), True), (on_circle(ZERO, 3), (), (BOW, BOWL), False),
        ]:
            for first, second in ((arm, other), (other, arm)):
                self.same_by_name(draw_alike, {"arm": first, "other": second, "curve": curve}, expected)

    def test_samples(self):
        samples = Samples(146)
        many = 0
        for _ in range(200):
            curve, arm = samples.curve(samples.choice((1, 2))), samples.arm(1)
            between = mirror_in(arc_round(curve[0]))
            other = samples.choice((arm, (CARRY, ("carry", (-1, 0, 1))) + arm, samples.arm(1)))
            expected = reaches_curve(arm, curve) and reaches_curve(other, curve)
            chart, beside = arm_map(arm), arm_map(other)
            same = chart == beside or (chart == after(beside, between) and len({arc_round(arc) for arc in curve}) == 1)
            self.same_by_name(draw_alike, {"arm": arm, "other": other, "curve": curve}, expected and same)
            if expected and same:
                many += 1
                for arc in curve:
                    self.assertTrue(all(agree_at(arm, other, place) for place in arc if place != FAR))
        self.assertGreater(many, 30)

    def test_arms_with_one_map_draw_alike_where_they_reach(self):
        for curve in ((BOW, BOWL), (BOW,), (((0, 1, 1), (1, 2, 1), (2, 2, 1)),)):
            for arm, other in itertools.combinations([(), (MIRROR, MIRROR), FAR_OFF, (CARRY, ("carry", (-1, 0, 1)))], 2):
                expected = reaches_curve(arm, curve) and reaches_curve(other, curve)
                self.assertIs(draw_alike(arm, other, curve), expected)
        self.assertTrue(reaches_nothing(NOTHING))
        self.assertIs(draw_alike(NOTHING, NOTHING, (BOW,)), False)

    def test_wrong_arguments(self):
        curves = indexes_of_wrong(tuple([BOW, BOWL] * 4 + [BOW]), WRONG_ARCS, 8) + [((), None)]
        good = {"arm": NEAR, "other": FAR_OFF, "curve": (BOW, BOWL)}
        self.check_indexes(InvalidCurve, draw_alike, good, "curve", curves)
        for name in ("arm", "other"):
            self.check_indexes(InvalidArm, draw_alike, good, name, WRONG_ARMS)
        self.assertEqual(self.raised(InvalidArm, draw_alike, (), (None,), None).index, 0)


if __name__ == "__main__":
    unittest.main()
