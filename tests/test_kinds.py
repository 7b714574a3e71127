"""Promises [13], [14] and [15]: kinds of maps, kept places, powers, returns."""

import itertools
import unittest

from drawarms.errors import InvalidMap, InvalidNumber, InvalidPlace
from drawarms.kinds import kind_of, place_after, power_of, return_of, staying, staying_places, trace_ratio
from drawarms.maps import after, back, is_map, led_place, map_of, mirror_in
from tests.support import BIG, FAR, PLACES, ROUNDS, STAYS, WRONG_MAPS, WRONG_NUMBERS, WRONG_PLACES, ArgumentCase, Samples
from tests.support import place_with, value_of

SPIN = map_of(0, (0, 1), (0, 0), (0, 0), (1, 0))
SLIDE = map_of(0, (1, 0), (1, 0), (0, 0), (1, 0))
FLIP = map_of(0, (0, 0), (1, 0), (1, 0), (0, 0))
# Map, kind, return, how many places it keeps, the whole ones of them.
PLAIN = [
    (STAYS, "stays", 1, "all", None),
    (SLIDE, "settles", None, 1, (FAR,)),
    (map_of(0, (1, 0), (0, 0), (1, 0), (1, 0)), "settles", None, 1, ((0, 0, 1),)),
    (map_of(0, (3, 0), (-4, 0), (1, 0), (-1, 0)), "settles", None, 1, ((2, 0, 1),)),
    (SPIN, "winds", 4, 2, ((0, 0, 1), FAR)),
    (FLIP, "winds", 2, 2, ((-1, 0, 1), (1, 0, 1))),
    (map_of(0, (0, 0), (2, 0), (1, 0), (0, 0)), "winds", 2, 2, ()),
    (map_of(0, (0, 0), (-1, 0), (1, 0), (1, 0)), "winds", 3, 2, ()),
    (map_of(0, (1, 0), (-1, 0), (1, 0), (0, 0)), "winds", 3, 2, ()),
    (map_of(0, (2, 0), (-1, 0), (1, 0), (1, 0)), "winds", 6, 2, ()),
    (map_of(0, (3, 4), (0, 0), (0, 0), (5, 0)), "winds", None, 2, ((0, 0, 1), FAR)),
    (map_of(0, (2, 0), (0, 0), (0, 0), (1, 0)), "pulls", None, 2, ((0, 0, 1), FAR)),
    (map_of(0, (2, 0), (1, 0), (1, 0), (1, 0)), "pulls", None, 2, ()),
    (map_of(0, (-2, 0), (3, 0), (0, 0), (1, 0)), "swings", None, 2, (FAR, (1, 0, 1))),
    (map_of(0, (0, 2), (0, 0), (0, 0), (1, 0)), "spirals", None, 2, ((0, 0, 1), FAR)),
    (map_of(0, (1, 1), (0, 0), (0, 0), (1, 0)), "spirals", None, 2, ((0, 0, 1), FAR)),
    (map_of(0, (1, 1), (1, 0), (1, 0), (5, 0)), "spirals", None, 2, ()),
]
MIRRORED = [
    (mirror_in((1, 0, 0, -1)), "mirror", 2, "round", None),
    (mirror_in((1, 0, 0, -3)), "mirror", 2, "round", None),
    (mirror_in((0, 1, -1, 0)), "mirror", 2, "round", None),
    (map_of(1, (0, 0), (-1, 0), (1, 0), (0, 0)), "flips", 2, 0, ()),
    (map_of(1, (0, 0), (-3, 0), (1, 0), (0, 0)), "flips", 2, 0, ()),
    (map_of(1, (1, 0), (1, 0), (0, 0), (1, 0)), "settles", None, 1, (FAR,)),
    (map_of(1, (0, 0), (0, 1), (1, 0), (0, 0)), "winds", 4, 0, ()),
    (map_of(1, (0, 0), (3, 4), (1, 0), (0, 0)), "winds", None, 0, ()),
    (map_of(1, (2, 0), (0, 0), (0, 0), (1, 0)), "pulls", None, 2, ((0, 0, 1), FAR)),
    (map_of(1, (0, 2), (0, 0), (0, 0), (1, 0)), "pulls", None, 2, ((0, 0, 1), FAR)),
    (map_of(1, (1, 0), (1, 0), (1, 0), (0, 0)), "pulls", None, 2, ()),
]
ALL = PLAIN + MIRRORED


def turned_maps():
    """The maps told above, each led on by other maps, with what stays the same of them."""
    samples = Samples(30)
    for chart, kind, many, count, places in ALL:
        for flag in (0, 1, 0):
            other = map_of(flag, *samples.numbers(5))
            moved = None if places is None else tuple(sorted(led_place(other, place) for place in places))
            yield after(after(other, chart), back(other)), kind, many, count, moved


class Kinds(ArgumentCase):
    def test_told_maps(self):
        for chart, kind, many, count, places in ALL:
            self.same_by_name(kind_of, {"chart": chart}, kind)
            self.same_by_name(return_of, {"chart": chart}, many)
            self.same_by_name(staying, {"chart": chart}, count)
            self.same_by_name(staying_places, {"chart": chart}, places)

    def test_maps_led_on_by_others(self):
        for chart, kind, many, count, places in turned_maps():
            found = (kind_of(chart), return_of(chart), staying(chart), staying_places(chart))
            self.assertEqual(found, (kind, many, count, places), chart)

    def test_great_numbers(self):
        self.assertEqual(kind_of(map_of(0, (BIG, 0), (0, 0), (0, 0), (1, 0))), "pulls")
        self.assertEqual(kind_of(map_of(0, (BIG, 1), (0, 0), (0, 0), (BIG, -1))), "winds")
        self.assertEqual(staying_places(map_of(0, (BIG, 0), (1 - BIG, 0), (0, 0), (1, 0))), (FAR, (1, 0, 1)))
        self.assertEqual(return_of(map_of(0, (0, 0), (BIG, 0), (1, 0), (0, 0))), 2)

    def test_kind_and_trace_ratio(self):
        samples = Samples(31)
        for _ in range(300):
            numbers = samples.numbers(4)
            chart, values = map_of(0, *numbers), [value_of(number) for number in numbers]
            trace = values[0] + values[3]
            ratio = place_with(trace * trace / (values[0] * values[3] - values[1] * values[2]))
            self.same_by_name(trace_ratio, {"chart": chart}, ratio)
            p, s, r = ratio
            if chart == STAYS:
                kind = "stays"
            elif s:
                kind = "spirals"
            else:
                kind = "swings" if p < 0 else "winds" if p < 4 * r else "settles" if p == 4 * r else "pulls"
            self.assertEqual(kind_of(chart), kind)

    def test_trace_ratio_at_its_limits(self):
        told = [trace_ratio(chart) for chart in (SPIN, SLIDE, FLIP, STAYS)]
        self.assertEqual(told, [(2, 0, 1), (4, 0, 1), (0, 0, 1), (4, 0, 1)])

    def test_a_mirrored_map_has_the_kind_of_its_square(self):
        samples = Samples(32)
        for _ in range(300):
            chart = map_of(1, *samples.numbers(4))
            square = after(chart, chart)
            if square == STAYS:
                self.assertIn(kind_of(chart), ("mirror", "flips"))
                self.assertEqual(return_of(chart), 2)
            else:
                self.assertEqual(kind_of(chart), kind_of(square))
                self.assertIn(kind_of(chart), ("settles", "winds", "pulls"))
                many = return_of(square)
                self.assertEqual(return_of(chart), None if many is None else 2 * many)

    def test_mirrors_alone_are_mirrors(self):
        for circle in ROUNDS:
            self.assertEqual((kind_of(mirror_in(circle)), staying(mirror_in(circle))), ("mirror", "round"))

    def test_wrong_arguments(self):
        for function in (kind_of, return_of, staying, staying_places, trace_ratio):
            self.check_all_given(function, {"chart": SLIDE}, {"chart": (InvalidMap, WRONG_MAPS)})
        for chart, *_ in MIRRORED:
            self.check_given(InvalidMap, trace_ratio, {"chart": chart}, "chart", chart)


class Returns(ArgumentCase):
    def test_the_return_is_the_least_power_that_stays(self):
        for chart, _, many, _, _ in ALL:
            staying_powers = [power for power in range(1, 61) if power_of(chart, power) == STAYS]
            self.assertEqual(staying_powers, [] if many is None else list(range(many, 61, many)))

    def test_all_small_maps(self):
        numbers = list(itertools.product((-1, 0, 1), repeat=2))
        for flag, a, b, c in itertools.product((0, 1), numbers[4:], numbers[::2], numbers[::3]):
            d = (1, -1)
            if value_of(a) * value_of(d) != value_of(b) * value_of(c):
                chart = map_of(flag, a, b, c, d)
                many = [power for power in range(1, 13) if power_of(chart, power) == STAYS]
                self.assertEqual(return_of(chart), many[0] if many else None)


class KeptPlaces(ArgumentCase):
    def test_whole_places_are_kept_and_ascend(self):
        for chart, _, _, count, places in turned_maps():
            for place in places or ():
                self.assertEqual(led_place(chart, place), place)
            if places is not None:
                self.assertEqual(staying_places(chart), tuple(sorted(set(places))))
                self.assertLessEqual(len(places), count)

    def test_no_other_place_is_kept(self):
        samples = Samples(33)
        for _ in range(400):
            chart = map_of(samples.choice((0, 1)), *samples.numbers(3))
            kept = staying_places(chart)
            for place in PLACES + [samples.place(3) for _ in range(20)]:
                if kept is not None:
                    self.assertEqual(led_place(chart, place) == place, place in kept)

    def test_two_given_places(self):
        samples = Samples(34)
        for _ in range(100):
            other = map_of(0, *samples.numbers())
            chart = after(after(other, map_of(0, (3, 1), (0, 0), (0, 0), (1, 0))), back(other))
            self.assertEqual(staying_places(chart), tuple(sorted([led_place(other, FAR), led_place(other, (0, 0, 1))])))


class Powers(ArgumentCase):
    def test_powers_are_done_again_and_again(self):
        for chart, *_ in ALL:
            forth, way_back = STAYS, STAYS
            for many in range(13):
                self.assertEqual((power_of(chart, many), power_of(chart, -many)), (forth, way_back))
                self.assertEqual(back(forth), way_back)
                forth, way_back = after(chart, forth), after(back(chart), way_back)

    def test_powers_add_up(self):
        samples = Samples(35)
        for chart, *_ in ALL:
            for _ in range(10):
                many, more = samples.whole(30), samples.whole(30)
                self.assertEqual(after(power_of(chart, many), power_of(chart, more)), power_of(chart, many + more))

    def test_limits(self):
        self.same_by_name(power_of, {"chart": SLIDE, "many": 60}, (0, (1, 0), (60, 0), (0, 0), (1, 0)))
        self.same_by_name(power_of, {"chart": SLIDE, "many": -60}, (0, (1, 0), (-60, 0), (0, 0), (1, 0)))
        self.same_by_name(power_of, {"chart": SLIDE, "many": 0}, STAYS)
        self.same_by_name(power_of, {"chart": SLIDE, "many": -3}, (0, (1, 0), (-3, 0), (0, 0), (1, 0)))
        self.same_by_name(place_after, {"chart": SPIN, "place": (1, 0, 1), "many": 3}, (0, -1, 1))
        self.assertEqual(place_after(SLIDE, (0, 0, 1), -60), (-60, 0, 1))
        self.assertEqual(power_of(map_of(0, (2, 0), (0, 0), (0, 0), (1, 0)), 60), (0, (2 ** 60, 0), (0, 0), (0, 0), (1, 0)))

    def test_places_after(self):
        for chart, *_ in ALL:
            for place in PLACES[::4]:
                forth, way_back = place, place
                for many in range(8):
                    self.assertEqual(place_after(chart, place, many), forth)
                    self.assertEqual(place_after(chart, place, -many), way_back)
                    forth, way_back = led_place(chart, forth), led_place(back(chart), way_back)

    def test_powers_of_great_maps(self):
        chart = map_of(1, (BIG, 3), (0, -BIG), (BIG + 1, 1), (7, BIG))
        power = power_of(chart, 60)
        self.assertTrue(is_map(power))
        self.assertEqual((after(power, power_of(chart, -60)), kind_of(power)), (STAYS, kind_of(after(chart, chart))))
        self.assertEqual(power_of(chart, 59), after(back(chart), power))
        self.assertEqual(led_place(power, (1, 0, 1)), place_after(chart, (1, 0, 1), 60))
        self.assertEqual(power_of(power_of(SPIN, 59), 60), STAYS)

    def test_powers_of_powers(self):
        chart = map_of(0, (2, 1), (3, 0), (1, -1), (5, 2))
        self.assertEqual(power_of(power_of(chart, 10), 6), power_of(chart, 60))
        self.assertEqual(after(power_of(power_of(chart, 60), 60), power_of(power_of(chart, -60), 60)), STAYS)

    def test_wrong_arguments(self):
        charts, numbers = (InvalidMap, WRONG_MAPS), (InvalidNumber, WRONG_NUMBERS)
        self.check_all_given(power_of, {"chart": SLIDE, "many": 2}, {"chart": charts, "many": numbers})
        wrongs = {"chart": charts, "place": (InvalidPlace, WRONG_PLACES), "many": numbers}
        self.check_all_given(place_after, {"chart": SLIDE, "place": FAR, "many": 2}, wrongs)


if __name__ == "__main__":
    unittest.main()
