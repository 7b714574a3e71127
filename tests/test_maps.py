"""Promise [11]: maps, their form, where they lead places and rounds."""

import itertools
import unittest

from drawarms.complexes import common_divisor, product, quarter_form
from drawarms.errors import InvalidComplex, InvalidFlag, InvalidMap, InvalidPlace, InvalidRound, NoMap
from drawarms.maps import after, back, is_map, is_straight, led_place, led_round, map_of, mirror_in
from drawarms.rounds import crossing, middle_of, mirrored_place, mirrored_round, round_through, shared, value_at
from tests.support import BIG, FAR, PLACES, ROUNDS, STAYS, WRONG_COMPLEXES, WRONG_FLAGS, WRONG_MAPS, WRONG_PLACES
from tests.support import WRONG_ROUNDS, ArgumentCase, Samples, Value, quotient_place, value_of

UNITS = [(1, 0), (0, 1), (-1, 0), (0, -1)]
FLIP = (0, (0, 0), (1, 0), (1, 0), (0, 0))
SLIDE = (0, (1, 0), (1, 0), (0, 0), (1, 0))
NAMES = ("is_mirrored", "first", "second", "third", "fourth")
GREAT = (0, (BIG, 1), (3, -BIG), (BIG - 2, 0), (5, BIG))


def sample_maps(seed, many, size=12):
    samples = Samples(seed)
    return [map_of(samples.choice((0, 1)), *samples.numbers(size)) for _ in range(many)]


MAPS = [STAYS, FLIP, SLIDE, (1,) + FLIP[1:], (1,) + SLIDE[1:], mirror_in((1, 0, 0, -3)), mirror_in((0, 2, -3, 5)),
        map_of(0, (0, 1), (0, 0), (0, 0), (1, 0)), map_of(*GREAT), map_of(1, *GREAT[1:])] + sample_maps(10, 12)


def led_by_words(chart, place):
    """Where a map leads a place, by the words of [11]."""
    a, b, c, d = [value_of(number) for number in chart[1:]]
    if place == FAR:
        return quotient_place(a, c)
    spot = value_of(place)
    if chart[0]:
        spot = spot.conjugate()
    return quotient_place(a * spot + b, c * spot + d)


class Forms(ArgumentCase):
    def test_the_form(self):
        samples = Samples(11)
        for _ in range(300):
            numbers, flag = samples.numbers(), samples.choice((0, 1))
            chart = map_of(flag, *numbers)
            self.assertEqual((len(chart), chart[0]), (5, flag))
            self.assertEqual(common_divisor(chart[1:]), (1, 0))
            leader = [number for number in chart[1:] if number != (0, 0)][0]
            self.assertEqual(quarter_form(leader), leader)
            for (at, number), (other, beside) in itertools.combinations(enumerate(numbers), 2):
                self.assertEqual(product(number, chart[other + 1]), product(beside, chart[at + 1]))
            self.assertIs(is_map(chart), True)

    def test_a_common_factor_changes_nothing(self):
        samples = Samples(12)
        for factor in UNITS + [samples.other_than_zero(size) for size in (3, 12, 10 ** 6, BIG)]:
            for chart in MAPS:
                longer = [product(factor, number) for number in chart[1:]]
                self.assertEqual(map_of(chart[0], *longer), chart)

    def test_by_position_and_by_name(self):
        cases = [
            ((0, (0, 1), (0, 0), (0, 0), (1, 0)), (0, (1, 0), (0, 0), (0, 0), (0, -1))),
            ((1, (0, 2), (0, 0), (0, 0), (2, 0)), (1, (1, 0), (0, 0), (0, 0), (0, -1))),
            ((0, (0, 0), (0, -7), (-7, 0), (0, 0)), (0, (0, 0), (1, 0), (0, -1), (0, 0))),
            ((1, (2, 0), (1, 1), (0, 0), (1, 1)), (1, (1, -1), (1, 0), (0, 0), (1, 0))),
        ]
        for arguments, expected in cases[:3]:
            self.same_by_name(map_of, dict(zip(NAMES, arguments)), expected)
        # 1 - i is brought to quarter form by i, and all other numbers are turned with it.
        self.assertEqual(map_of(*cases[3][0]), (1, (1, 1), (0, 1), (0, 0), (0, 1)))

    def test_is_map(self):
        for chart in MAPS:
            self.assertIs(is_map(chart), True)
            self.assertIs(is_map(value=chart), True)
        for value in WRONG_MAPS:
            self.assertIs(is_map(value), False)
            self.assertIs(is_map(value=value), False)

    def test_wrong_arguments(self):
        good = dict(zip(NAMES, SLIDE))
        wrong = (InvalidComplex, WRONG_COMPLEXES)
        self.check_all_given(map_of, good, {"is_mirrored": (InvalidFlag, WRONG_FLAGS), "first": wrong, "second": wrong,
                                            "third": wrong, "fourth": wrong})

    def test_no_map_comes_last(self):
        nothing, one = (0, 0), (1, 0)
        for numbers in [(nothing,) * 4, (one,) * 4, (nothing, nothing, one, one), (one, nothing, one, nothing),
                        ((1, 1), one, (2, 0), (1, -1)), ((BIG, 0), (0, BIG), (0, BIG), (-BIG, 0))]:
            self.raised(NoMap, map_of, 0, *numbers)
            self.raised(NoMap, map_of, **dict(zip(NAMES, (1,) + numbers)))
        self.assertIs(self.raised(InvalidFlag, map_of, True, nothing, nothing, nothing, nothing).given, True)
        self.assertEqual(self.raised(InvalidComplex, map_of, 0, nothing, nothing, nothing, 0).given, 0)


class Places(ArgumentCase):
    def test_places_are_led_as_the_words_say(self):
        for chart, place in itertools.product(MAPS, PLACES):
            self.same_by_name(led_place, {"chart": chart, "place": place}, led_by_words(chart, place))

    def test_the_far_place(self):
        for chart in MAPS:
            goes_to_far = led_place(back(chart), FAR)
            self.assertEqual(led_place(chart, goes_to_far), FAR)
            self.assertEqual(led_place(chart, FAR) == FAR, chart[3] == (0, 0))

    def test_one_to_one(self):
        for chart in MAPS:
            self.assertEqual(len({led_place(chart, place) for place in PLACES}), len(PLACES))

    def test_wrong_arguments(self):
        wrongs = {"chart": (InvalidMap, WRONG_MAPS), "place": (InvalidPlace, WRONG_PLACES)}
        self.check_all_given(led_place, {"chart": SLIDE, "place": FAR}, wrongs)


class Rounds(ArgumentCase):
    def test_rounds_are_led_as_their_places_are(self):
        samples = Samples(13)
        for chart in MAPS:
            for _ in range(20):
                places = samples.places(3)
                circle = round_through(*places)
                image = led_round(chart, circle)
                self.assertEqual(image, round_through(*[led_place(chart, place) for place in places]))
                self.assertEqual(is_straight(chart, circle), image[0] == 0)
                self.assertEqual(led_round(back(chart), image), circle)

    def test_what_two_rounds_share_is_kept(self):
        for chart, circle, other in itertools.product(MAPS, ROUNDS[::3], ROUNDS[::2]):
            images = led_round(chart, circle), led_round(chart, other)
            self.assertEqual((shared(*images), crossing(*images)), (shared(circle, other), crossing(circle, other)))

    def test_chosen_rounds(self):
        self.same_by_name(led_round, {"chart": FLIP, "circle": (0, 1, 0, -1)}, (1, -1, 0, 0))
        self.same_by_name(led_round, {"chart": FLIP, "circle": (1, 0, 0, -3)}, (3, 0, 0, -1))
        self.same_by_name(led_round, {"chart": SLIDE, "circle": (1, 0, 0, -3)}, (1, -2, 0, -2))
        self.same_by_name(led_round, {"chart": (1,) + SLIDE[1:], "circle": (0, 1, 1, 0)}, (0, 1, -1, -1))
        for circle in ROUNDS:
            self.assertEqual(led_round(STAYS, circle), circle)

    def test_straight_rounds(self):
        self.same_by_name(is_straight, {"chart": FLIP, "circle": (1, -1, 0, 0)}, True)
        self.same_by_name(is_straight, {"chart": FLIP, "circle": (1, 0, 0, -1)}, False)
        for chart, circle in itertools.product(MAPS, ROUNDS):
            goes_to_far = led_place(back(chart), FAR)
            self.assertIs(is_straight(chart, circle), value_at(circle, goes_to_far) == 0)

    def test_wrong_arguments(self):
        wrongs = {"chart": (InvalidMap, WRONG_MAPS), "circle": (InvalidRound, WRONG_ROUNDS)}
        for function in (led_round, is_straight):
            self.check_all_given(function, {"chart": SLIDE, "circle": (1, 0, 0, -1)}, wrongs)


class OneAfterAnother(ArgumentCase):
    def test_the_other_one_is_done_first(self):
        for chart, other in itertools.product(MAPS, MAPS):
            both = after(chart, other)
            self.assertTrue(is_map(both))
            self.assertEqual(both[0], (chart[0] + other[0]) % 2)
            for place in PLACES[::3]:
                self.assertEqual(led_place(both, place), led_place(chart, led_place(other, place)))

    def test_three_in_a_row(self):
        maps = sample_maps(14, 30)
        for first, second, third in zip(maps, maps[10:], maps[20:]):
            self.assertEqual(after(first, after(second, third)), after(after(first, second), third))

    def test_the_way_back(self):
        for chart in MAPS:
            self.assertEqual(after(chart, back(chart)), STAYS)
            self.assertEqual(after(back(chart), chart), STAYS)
            self.assertEqual(back(back(chart)), chart)
            self.assertEqual((after(STAYS, chart), after(chart, STAYS)), (chart, chart))

    def test_chosen_maps(self):
        self.same_by_name(after, {"chart": FLIP, "other": SLIDE}, (0, (0, 0), (1, 0), (1, 0), (1, 0)))
        self.same_by_name(after, {"chart": SLIDE, "other": FLIP}, (0, (1, 0), (1, 0), (1, 0), (0, 0)))
        self.same_by_name(back, {"chart": SLIDE}, (0, (1, 0), (-1, 0), (0, 0), (1, 0)))
        self.same_by_name(back, {"chart": map_of(1, (1, 0), (2, 3), (0, 0), (1, 0))}, map_of(1, (1, 0), (-2, 3), (0, 0), (1, 0)))
        self.assertEqual(back(STAYS), STAYS)

    def test_common_factors_of_products_go(self):
        doubled = map_of(0, (1, 1), (0, 0), (0, 0), (1, 0))
        halved = map_of(0, (1, 0), (0, 0), (0, 0), (1, 1))
        self.assertEqual((after(doubled, halved), after(halved, doubled)), (STAYS, STAYS))
        for chart in MAPS:
            for mirrored in (doubled, (1,) + doubled[1:]):
                self.assertEqual(after(after(chart, mirrored), back(mirrored)), chart)

    def test_very_great_numbers(self):
        chart = map_of(*GREAT)
        for _ in range(6):
            chart = after(chart, (1,) + chart[1:])
        self.assertGreater(max(abs(part) for number in chart[1:] for part in number), 10 ** 1000)
        self.assertEqual(after(chart, back(chart)), STAYS)
        self.assertTrue(is_map(chart))
        self.assertEqual(led_place(back(chart), led_place(chart, (1, 2, 3))), (1, 2, 3))
        self.assertEqual(led_round(back(chart), led_round(chart, (3, 1, 5, -2))), (3, 1, 5, -2))

    def test_wrong_arguments(self):
        wrong = (InvalidMap, WRONG_MAPS)
        self.check_all_given(after, {"chart": FLIP, "other": SLIDE}, {"chart": wrong, "other": wrong})
        self.check_all_given(back, {"chart": SLIDE}, {"chart": wrong})


class Mirrors(ArgumentCase):
    def test_mirrors_lead_as_mirror_images_lie(self):
        for circle in ROUNDS:
            mirror = mirror_in(circle)
            self.assertEqual((mirror[0], is_map(mirror)), (1, True))
            self.assertEqual((after(mirror, mirror), back(mirror)), (STAYS, mirror))
            self.assertEqual(led_place(mirror, FAR), middle_of(circle))
            for place in PLACES:
                self.assertEqual(led_place(mirror, place), mirrored_place(circle, place))
            for other in ROUNDS:
                self.assertEqual(led_round(mirror, other), mirrored_round(circle, other))

    def test_the_numbers_told(self):
        for circle in ROUNDS:
            q, l, m, k = circle
            self.same_by_name(mirror_in, {"circle": circle}, map_of(1, (-l, -m), (-2 * k, 0), (2 * q, 0), (l, -m)))
        self.assertEqual(mirror_in((1, 0, 0, -1)), (1, (0, 0), (1, 0), (1, 0), (0, 0)))
        self.assertEqual(mirror_in((0, 0, 1, 0)), (1, (1, 0), (0, 0), (0, 0), (1, 0)))

    def test_a_mirror_led_on_by_a_map(self):
        for chart, circle in itertools.product(MAPS, ROUNDS):
            self.assertEqual(after(after(chart, mirror_in(circle)), back(chart)), mirror_in(led_round(chart, circle)))

    def test_wrong_arguments(self):
        self.check_all_given(mirror_in, {"circle": (1, 0, 0, -1)}, {"circle": (InvalidRound, WRONG_ROUNDS)})


class WordsOfTheTest(unittest.TestCase):
    def test_a_place_that_goes_to_the_far_one(self):
        self.assertEqual(led_by_words(FLIP, (0, 0, 1)), FAR)
        self.assertEqual(quotient_place(Value(1), Value(0)), FAR)


if __name__ == "__main__":
    unittest.main()
