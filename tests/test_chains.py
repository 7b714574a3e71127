"""Promises [29] and [30]: links, neighbours, chains that close and chains that never do."""

import itertools
import unittest
from fractions import Fraction
from math import isqrt

from drawarms.chains import are_neighbours, chain_count, is_link, links_on, next_links
from drawarms.errors import InvalidNumber, InvalidRound, Meets, NoLink, Same
from drawarms.maps import led_round, map_of
from drawarms.rounds import crossing, shared
from tests.oracles import product
from tests.support import BIG, ROUNDS, WRONG_LINK_NUMBERS, WRONG_ROUNDS, ArgumentCase, Samples
from tests.test_pencils import with_form

FLAT, UNIT = (0, 0, 1, 0), (1, 0, 0, -1)
# Chains with 3 links, with links and neighbours that are told by whole numbers.
THREE = (FLAT, (1, 0, -14, 48), (1, 0, -6, 0))
FOUR = (FLAT, (1, 0, -6, 8), (1, 0, -2, 0))
SIX = (UNIT, (1, 0, 0, -9), (1, -4, 0, 3))
# Of these K is 289 / 64: the chain never closes, but its links are told by whole numbers.
ENDLESS = (UNIT, (1, 0, 0, -16), (1, -5, 0, 4))
NEVER = (UNIT, (1, 0, 0, -4), (1, -3, 0, 2))
ALL = [THREE, FOUR, SIX, ENDLESS, NEVER]


def moved(samples, rounds, size=3):
    chart = samples.chart(size)
    return tuple(led_round(chart, circle) for circle in rounds)


def touch(circle, other):
    return circle != other and shared(circle, other) == 1


def links_by_words(circle, other, third):
    if third in (circle, other) or not touch(circle, third) or not touch(other, third):
        return False
    return product(third, circle) * product(third, other) * product(circle, other) < 0


class Counts(ArgumentCase):
    def test_told_ones(self):
        for rounds, expected in zip(ALL, (3, 4, 6, None, None)):
            for circle, other in (rounds[:2], rounds[1::-1]):
                self.same_by_name(chain_count, {"circle": circle, "other": other}, expected)
        self.same_by_name(chain_count, {"circle": (1, 0, 0, -3), "other": (1, 0, 0, -27)}, 6)
        self.same_by_name(chain_count, {"circle": (1, 0, 0, -1), "other": (1, 0, 0, -25)}, None)
        self.same_by_name(chain_count, {"circle": (1, 0, 0, -1), "other": (1, 0, 0, -BIG)}, None)

    def test_samples(self):
        samples = Samples(170)
        counts = {Fraction(49): 3, Fraction(9): 4, Fraction(25, 9): 6}
        for rounds in ALL * 20:
            circle, other, _ = moved(samples, rounds, samples.choice((2, 5, BIG)))
            self.assertEqual(chain_count(circle, other), chain_count(*rounds[:2]))
            self.assertEqual(chain_count(circle, other), counts.get(Fraction(*crossing(circle, other))))
        for circle, other in itertools.permutations(ROUNDS, 2):
            if shared(circle, other) == 0:
                self.assertEqual(chain_count(circle, other), counts.get(Fraction(*crossing(circle, other))))


class Links(ArgumentCase):
    def test_told_ones(self):
        for circle, other, third, expected in [
            SIX + (True,), FOUR + (True,), THREE + (True,), ENDLESS + (True,), NEVER + (True,), (UNIT, (1, 0, 0, -9),
                (1, 0, -4, 3), True),
            (UNIT, (1, 0, 0, -9), (5, -12, -16, 15), True), (UNIT, (1, 0, 0, -9), (1, -2, 0, -3), False),
            (UNIT, (1, 0, 0, -9), (1, 0, 0, -4), False),
            (UNIT, (1, 0, 0, -9), (0, 1, 0, -1), False), (UNIT, (1, 0, 0, -9), (0, 1, 0, -3), False),
            (UNIT, (1, 0, 0, -9), UNIT, False),
            (UNIT, (1, 0, 0, -9), (1, 0, 0, -9), False), ((0, 1, 0, 0), (1, -4, 0, 3), (0, 1, 0, -1), False),
        ]:
            self.same_by_name(is_link, {"circle": circle, "other": other, "third": third}, expected)
            self.same_by_name(is_link, {"circle": other, "other": circle, "third": third}, expected)

    def test_rounds_that_touch_both(self):
        first, second = (1, -10, 0, 24), (1, 10, 0, 24)
        # Those that part the two are no links; those with both on one side are, also the one that goes round both.
        for third, expected in [((1, 0, 0, -36), True), ((1, 0, 0, -16), True), ((0, 0, 1, -1), True), ((0, 0, 1, 1), True),
                                ((1, -2, 0, -24), False), ((1, 2, 0, -24), False)]:
            self.assertEqual((touch(first, third), touch(second, third)), (True, True))
            self.assertIs(is_link(first, second, third), expected)

    def test_samples(self):
        samples = Samples(171)
        found = []
        for rounds in ALL * 8:
            circle, other, link = moved(samples, rounds)
            self.same_by_name(is_link, {"circle": circle, "other": other, "third": link}, True)
            for third in ROUNDS + [samples.circle(3) for _ in range(5)] + [with_form([a + b for a,
                b in zip(circle, link)]), circle]:
                if third is not None:
                    self.same_by_name(is_link, {"circle": circle, "other": other, "third": third},
                        links_by_words(circle, other, third))
                    found.append(links_by_words(circle, other, third))
        self.assertGreater(len(found), 500)


class Neighbours(ArgumentCase):
    def test_told_ones(self):
        lesser, greater = (1, -24, -24, 144), (1, 24, -24, 144)
        self.same_by_name(next_links, dict(zip(("circle", "other", "link"), THREE)), (lesser, greater))
        for rounds in (FOUR, SIX, NEVER):
            self.same_by_name(next_links, dict(zip(("circle", "other", "link"), rounds)), None)
        for link, next_link, expected in [(THREE[2], lesser, True), (lesser, THREE[2], True), (lesser, greater, True),
            (greater, greater, False)]:
            passed = {"circle": THREE[0], "other": THREE[1], "link": link, "next_link": next_link}
            self.same_by_name(are_neighbours, passed, expected)
        # Links that are whole, of chains whose neighbours are not.
        for rounds, link, expected in [(SIX, SIX[2], False), (SIX, (1, 0, -4, 3), False), (SIX, (1, 4, 0, 3), False),
            (FOUR, (1, 4, -2, 1), False)]:
            passed = {"circle": rounds[0], "other": rounds[1], "link": rounds[2], "next_link": link}
            if is_link(*rounds[:2], link):
                self.same_by_name(are_neighbours, passed, expected)

    def test_neighbours_are_links_that_touch(self):
        samples = Samples(172)
        for rounds in (THREE, ENDLESS) * 25:
            circle, other, link = moved(samples, rounds, samples.choice((2, 4, BIG)))
            pair = next_links(circle, other, link)
            self.same_by_name(next_links, {"circle": other, "other": circle, "link": link}, pair)
            self.assertEqual(pair, tuple(sorted(set(pair))))
            for one in pair:
                self.assertTrue(links_by_words(circle, other, one) and touch(link, one))
                self.same_by_name(are_neighbours, {"circle": circle, "other": other, "link": link, "next_link": one}, True)
                self.same_by_name(are_neighbours, {"circle": circle, "other": other, "link": one, "next_link": link}, True)
                self.assertIs(are_neighbours(circle, other, one, one), False)
                self.assertIn(link, next_links(circle, other, one))
            self.assertIs(are_neighbours(circle, other, *pair), rounds is THREE)

    def test_when_neighbours_are_told_by_whole_numbers(self):
        # Between circles about one middle with radii 1 and n, u is (1 + n n) / (2 n).
        whole = 0
        for upper, lower in itertools.product(range(2, 40), (1, 2, 3, 4, 9)):
            radius = Fraction(upper, lower)
            if radius <= 1 or radius.denominator != lower:
                continue
            other = with_form((lower * lower, 0, 0, -upper * upper))
            middle, half = (radius + 1) / 2, (radius - 1) / 2
            numbers = (1, -2 * middle, 0, middle * middle - half * half)
            link = with_form([int(number * lower * lower) for number in numbers])
            self.assertIs(is_link(UNIT, other, link), True)
            u = (1 + radius * radius) / (2 * radius)
            told = 2 * (u + 1)
            is_square = isqrt(told.numerator) ** 2 == told.numerator and isqrt(told.denominator) ** 2 == told.denominator
            self.assertEqual(next_links(UNIT, other, link) is not None, is_square)
            whole += is_square
        self.assertGreater(whole, 5)


class Chains(ArgumentCase):
    def test_told_ones(self):
        first, lesser, greater = THREE[2], (1, -24, -24, 144), (1, 24, -24, 144)
        for many, expected in [(1, (first,)), (2, (first, lesser)), (3, (first, lesser, greater)),
            (4, (first, lesser, greater, first)),
                               (12, (first, lesser, greater) * 4)]:
            passed = {"circle": THREE[0], "other": THREE[1], "link": first, "many": many}
            self.same_by_name(links_on, passed, expected)
        for rounds in (FOUR, SIX, NEVER):
            for many in (1, 2, 7, 12):
                passed = {"circle": rounds[0], "other": rounds[1], "link": rounds[2], "many": many}
                self.same_by_name(links_on, passed, (rounds[2],) if many == 1 else None)

    def test_chains(self):
        samples = Samples(173)
        for rounds in (THREE, ENDLESS) * 8:
            circle, other, link = moved(samples, rounds, samples.choice((1, 3, BIG)))
            chain = links_on(circle, other, link, 12)
            self.assertEqual((len(chain), chain[0], chain[1]), (12, link, next_links(circle, other, link)[0]))
            for many in range(1, 13):
                self.assertEqual(links_on(circle, other, link, many), chain[:many])
            for before, one, after in zip(chain, chain[1:], chain[2:]):
                self.assertEqual(next_links(circle, other, one), tuple(sorted((before, after))))
            self.assertEqual(len(set(chain)), 3 if rounds is THREE else 12)
            self.assertEqual(chain_count(circle, other), 3 if rounds is THREE else None)

    def test_where_a_chain_begins_does_not_matter(self):
        # All links between two circles about one middle are turned into one another.
        for place in ((3, 4, 5), (-5, 12, 13), (0, 1, 1)):
            turn = map_of(0, place[:2], (0, 0), (0, 0), (place[2], 0))
            circle, other, link = ENDLESS
            turned = led_round(turn, link)
            self.assertIs(is_link(circle, other, turned), True)
            self.assertEqual(next_links(circle, other, turned),
                tuple(sorted(led_round(turn, one) for one in next_links(*ENDLESS))))
            self.assertEqual(are_neighbours(circle, other, link, turned), turned in next_links(*ENDLESS))


class WrongArguments(ArgumentCase):
    def test_rounds(self):
        wrong = (InvalidRound, WRONG_ROUNDS)
        pair = {"circle": THREE[0], "other": THREE[1]}
        both = {"circle": wrong, "other": wrong}
        self.check_all_given(chain_count, pair, both)
        self.check_all_given(is_link, {**pair, "third": THREE[2]}, {**both, "third": wrong})
        self.check_all_given(next_links, {**pair, "link": THREE[2]}, {**both, "link": wrong})
        links = {**pair, "link": THREE[2], "next_link": (1, 24, -24, 144)}
        self.check_all_given(are_neighbours, links, {**both, "link": wrong, "next_link": wrong})
        numbers = (InvalidNumber, WRONG_LINK_NUMBERS)
        self.check_all_given(links_on, {**pair, "link": THREE[2], "many": 3}, {**both, "link": wrong, "many": numbers})
        self.check_all_given(links_on, {**pair, "link": UNIT, "many": 1}, {**both, "link": wrong, "many": numbers})

    def calls(self, link, next_link, many=2):
        return [(chain_count, ()), (is_link, (link,)), (next_links, (link,)), (are_neighbours, (link, next_link)),
            (links_on, (link, many))]

    def test_same_then_meets(self):
        for function, more in self.calls(UNIT, UNIT):
            for circle in ROUNDS:
                self.assertEqual(self.raised(Same, function, circle, circle, *more).given, circle)
            for other in ((0, 1, 0, 0), (0, 1, 0, -1), (1, -4, 0, 3), (1, -2, 0, 0), (0, 2, 0, -1)):
                self.raised(Meets, function, UNIT, other, *more)
                self.raised(Meets, function, other, UNIT, *more)
        self.raised(Meets, chain_count, circle=UNIT, other=(0, 1, 0, 0))
        self.raised(Same, chain_count, circle=UNIT, other=UNIT)

    def test_no_link(self):
        circle, other, link = THREE
        for wrong in (UNIT, circle, other, (1, 0, -6, 1), (1, 0, -14, 0)):
            for function, more in ((next_links, ()), (are_neighbours, (link,)), (links_on, (1,)), (links_on, (5,))):
                self.assertIs(self.raised(NoLink, function, circle, other, wrong, *more).given, wrong)
            self.assertIs(self.raised(NoLink, are_neighbours, circle, other, link, wrong).given, wrong)
            self.assertIs(self.raised(NoLink, are_neighbours, circle, other, wrong, UNIT).given, wrong)
            self.assertIs(self.raised(NoLink, are_neighbours, circle, other, wrong, wrong).given, wrong)
        self.assertIs(self.raised(NoLink, next_links, circle=circle, other=other, link=UNIT).given, UNIT)

    def test_which_comes_first(self):
        self.assertEqual(self.raised(InvalidNumber, links_on, UNIT, UNIT, UNIT, 13).given, 13)
        self.assertEqual(self.raised(InvalidNumber, links_on, UNIT, FLAT, UNIT, 0).given, 0)
        self.assertIsNone(self.raised(InvalidRound, are_neighbours, UNIT, UNIT, UNIT, None).given)
        self.raised(Same, links_on, UNIT, UNIT, UNIT, 1)
        self.raised(Meets, links_on, UNIT, FLAT, UNIT, 1)


if __name__ == "__main__":
    unittest.main()
