"""Promise [12]: maps through three places, the ratio of four."""

import itertools
import unittest

from drawarms.errors import InvalidPlace, InvalidTriple, Same
from drawarms.maps import is_map, led_place, map_of
from drawarms.rounds import round_through, value_at
from drawarms.triples import mirrored_through, on_one_round, plain_through, ratio_of_four
from tests.support import BIG, FAR, NO_TUPLES, PLACES, STAYS, STUBBORN, WRONG_PLACES, ArgumentCase, Samples, Value
from tests.support import place_with, value_of

NAMES = ("first", "second", "third", "fourth")
THREE = ((0, 0, 1), (1, 0, 1), FAR)


def conjugate_place(place):
    return (place[0], -place[1], place[2])


def ratio_by_words(u, v, w, z):
    """The ratio of four places by the words of [12]."""
    def apart(one, other):
        return Value(1) if FAR in (one, other) else value_of(one) - value_of(other)
    return place_with((apart(u, w) * apart(v, z)) / (apart(v, w) * apart(u, z)))


class ThroughThree(ArgumentCase):
    def test_the_places_are_led_in_order(self):
        samples = Samples(20)
        for size in (2, 12, BIG):
            for _ in range(100):
                sources, goals = samples.places(3, size), samples.places(3, size)
                plain, mirrored = plain_through(sources, goals), mirrored_through(sources, goals)
                for chart, flag in ((plain, 0), (mirrored, 1)):
                    self.assertTrue(is_map(chart))
                    self.assertEqual(chart[0], flag)
                    self.assertEqual(tuple(led_place(chart, place) for place in sources), goals)

    def test_there_is_just_one(self):
        samples = Samples(21)
        for _ in range(200):
            numbers, sources = samples.numbers(), samples.places(3)
            for flag, through in ((0, plain_through), (1, mirrored_through)):
                chart = map_of(flag, *numbers)
                self.assertEqual(through(sources, tuple(led_place(chart, place) for place in sources)), chart)

    def test_by_position_and_by_name(self):
        both = {"sources": THREE, "goals": ((1, 0, 1), (2, 0, 1), FAR)}
        self.same_by_name(plain_through, both, (0, (1, 0), (1, 0), (0, 0), (1, 0)))
        self.same_by_name(mirrored_through, both, (1, (1, 0), (1, 0), (0, 0), (1, 0)))
        self.assertEqual(plain_through(THREE, THREE), STAYS)
        self.assertEqual(plain_through(THREE, (FAR, (1, 0, 1), (0, 0, 1))), (0, (0, 0), (1, 0), (1, 0), (0, 0)))

    def check_triple(self, function, wrong, index):
        for name in ("sources", "goals"):
            passed = {"sources": THREE, "goals": THREE, name: wrong}
            for caught in (self.raised(InvalidTriple, function, *passed.values()), self.raised(InvalidTriple, function, **passed)):
                self.assertIs(caught.index.__class__, index.__class__)
                self.assertEqual(caught.index, index)

    def test_wrong_triples(self):
        one, two, three = THREE
        cases = [((), 0), ((one,), 1), ((one, two), 2), ((one, two, three, (2, 0, 1)), 3), ((one, two, three, None), 3),
                 ((one, two, three, one), 3), ((one, two, three, one, one), 3), ((one, one), 1), ((one, one, None, one), 1),
                 ((one, two, one), 2), ((one, two, two), 2), ((None, None), 0), ((one, None, None), 1), ((one, two, [2, 0, 1]), 2),
                 (((one, two, three),), 0), ((one, two, (2, 0, 2)), 2), ((three, three, three), 1), (three, 0),
                 ((one, (True, 0, 1), three), 1), ((STUBBORN,) * 3, 0), ((one, STUBBORN, STUBBORN), 1)]
        for function in (plain_through, mirrored_through):
            for wrong, index in cases:
                self.check_triple(function, wrong, index)
            for wrong in NO_TUPLES + [list(THREE)]:
                self.check_triple(function, wrong, None)
            for wrong in WRONG_PLACES:
                self.check_triple(function, (wrong, two, three), 0)
                self.check_triple(function, (one, wrong, three), 1)
                self.check_triple(function, (one, two, wrong), 2)
                self.check_triple(function, (one, two, three, wrong), 3)

    def test_sources_come_before_goals(self):
        for function in (plain_through, mirrored_through):
            self.assertEqual(self.raised(InvalidTriple, function, THREE[:2], None).index, 2)
            self.assertIsNone(self.raised(InvalidTriple, function, goals=THREE[:2], sources=[]).index)


class RatiosOfFour(ArgumentCase):
    def test_ratios_as_the_words_say(self):
        samples = Samples(22)
        for size in (3, 12, BIG):
            for _ in range(150):
                places = samples.places(4, size)
                ratio = ratio_by_words(*places)
                self.same_by_name(ratio_of_four, dict(zip(NAMES, places)), ratio)
                self.same_by_name(on_one_round, dict(zip(NAMES, places)), ratio[1] == 0)

    def test_the_far_place_at_each_position(self):
        for at in range(4):
            places = [(1, 2, 3), (0, -1, 1), (4, 0, 1)]
            places.insert(at, FAR)
            self.assertEqual(ratio_of_four(*places), ratio_by_words(*places))
        self.assertEqual(ratio_of_four((0, 0, 1), (1, 0, 1), (2, 0, 1), (3, 0, 1)), (4, 0, 3))

    def test_plain_maps_keep_it_and_mirrored_ones_make_its_conjugate(self):
        samples = Samples(23)
        for _ in range(200):
            places, numbers = samples.places(4), samples.numbers()
            for flag in (0, 1):
                images = [led_place(map_of(flag, *numbers), place) for place in places]
                ratio = ratio_of_four(*places)
                self.assertEqual(ratio_of_four(*images), conjugate_place(ratio) if flag else ratio)

    def test_four_on_one_round(self):
        for places in itertools.permutations(PLACES[:9], 4):
            circle = round_through(*places[:3])
            self.assertIs(on_one_round(*places), value_at(circle, places[3]) == 0)

    def test_wrong_arguments(self):
        good = dict(zip(NAMES, PLACES))
        wrong = (InvalidPlace, WRONG_PLACES)
        for function in (ratio_of_four, on_one_round):
            self.check_all_given(function, good, {name: wrong for name in NAMES})

    def test_equal_places_come_last(self):
        one, two, three = PLACES[:3]
        for function in (ratio_of_four, on_one_round):
            for places, given in [((one, two, three, one), one), ((one, two, two, one), two), ((two, two, one, one), two),
                                  ((three, one, two, two), two), ((one,) * 4, one)]:
                self.assertEqual(self.raised(Same, function, *places).given, given)
                self.assertEqual(self.raised(Same, function, **dict(zip(NAMES, places))).given, given)
            self.assertEqual(self.raised(InvalidPlace, function, one, one, one, (2, 0, 0)).given, (2, 0, 0))


if __name__ == "__main__":
    unittest.main()
