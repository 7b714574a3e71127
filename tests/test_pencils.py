"""Promises [25] to [28]: pencils, upright rounds, rounds that exchange two, rounds and rows that a map keeps."""

import itertools
import unittest
from fractions import Fraction
from math import gcd, isqrt

from drawarms.errors import InvalidMap, InvalidPlace, InvalidRound, InvalidSign, Same
from drawarms.maps import after, back, led_place, led_round, map_of, mirror_in
from drawarms.pencils import any_kept, common_places, count_exchanging, exchanging, in_pencil, keeps_round, kept_rows
from drawarms.pencils import pencil_kind, pencil_round, upright_round
from drawarms.rounds import is_round, mirrored_round, shared, side_of, touching_place, value_at
from tests.oracles import product
from tests.support import BIG, FAR, PLACES, ROUNDS, STAYS, WRONG_MAPS, WRONG_PLACES, WRONG_ROUNDS, WRONG_WAYS, ArgumentCase
from tests.support import Samples, value_of
from tests.test_reach import led_back_by_words

UNIT, BARE, UPRIGHT, FLAT = (1, 0, 0, -1), (1, 0, 0, -3), (0, 1, 0, 0), (0, 0, 1, 0)
SPIN, SLIDE = map_of(0, (0, 1), (0, 0), (0, 0), (1, 0)), map_of(0, (1, 0), (1, 0), (0, 0), (1, 0))
FLIP = map_of(0, (0, 0), (1, 0), (1, 0), (0, 0))


def with_form(numbers):
    """The round of a multiple of a row; None if it is none."""
    common = gcd(*numbers)
    if common == 0 or product(numbers, numbers) <= 0:
        return None
    row = tuple(number // common for number in numbers)
    return row if row > (0, 0, 0, 0) else tuple(-number for number in row)


def mixed(row, many, other, other_many):
    return tuple(many * number + other_many * beside for number, beside in zip(row, other))


def rank(rows):
    """The rank of some rows of fractions."""
    rows = [[Fraction(number) for number in row] for row in rows]
    many = 0
    for at in range(4):
        first = next((row for row in rows[many:] if row[at]), None)
        if first is not None:
            rows.remove(first)
            rows.insert(many, first)
            for index in range(many + 1, len(rows)):
                factor = rows[index][at] / first[at]
                rows[index] = [number - factor * beside for number, beside in zip(rows[index], first)]
            many += 1
    return many


def sample_pairs(seed, many):
    samples = Samples(seed)
    pairs = [(UNIT, UPRIGHT), (UNIT, (0, 1, 0, -1)), (UNIT, (1, 0, 0, -4)), (BARE, (1, 0, 0, -4)), (UPRIGHT, FLAT), (BARE, FLAT),
             (UPRIGHT, (0, 1, 0, -1)), ((BIG, 1, 0, -BIG), UNIT)]
    while len(pairs) < many:
        pair = (samples.circle(samples.choice((2, 4, BIG))), samples.choice((samples.circle(3), samples.choice(ROUNDS[:13]))))
        if pair[0] != pair[1]:
            pairs.append(pair)
    return pairs


class Pencils(ArgumentCase):
    def test_kinds(self):
        for circle, other, expected in [
            (UNIT, UPRIGHT, "through"), (UNIT, (0, 1, 0, -1), "touching"), (UNIT, (1, 0, 0, -4), "about"),
            (UPRIGHT, FLAT, "through"),
            (UPRIGHT, (0, 1, 0, -1), "touching"), (BARE, FLAT, "through"), (BARE, UNIT, "about"),
            ((1, -2 * BIG, 0, 0), UPRIGHT, "touching"),
        ]:
            self.same_by_name(pencil_kind, {"circle": circle, "other": other}, expected)
        for circle, other in sample_pairs(150, 150):
            self.assertEqual(pencil_kind(circle, other), ("about", "touching", "through")[shared(circle, other)])

    def test_in_pencil(self):
        samples = Samples(151)
        for circle, other in sample_pairs(152, 120):
            for many, beside in itertools.product((-3, -1, 0, 1, 2), repeat=2):
                third = with_form(mixed(circle, many, other, beside))
                if third is not None:
                    self.same_by_name(in_pencil, {"circle": circle, "other": other, "third": third}, True)
            third = samples.circle(3)
            expected = rank([circle, other, third]) == 2
            self.same_by_name(in_pencil, {"circle": circle, "other": other, "third": third}, expected)
        self.same_by_name(in_pencil, {"circle": UNIT, "other": BARE, "third": (BIG, 0, 0, -1)}, True)
        self.same_by_name(in_pencil, {"circle": UNIT, "other": BARE, "third": (BIG, 0, 1, -1)}, False)

    def test_each_two_rounds_of_a_pencil_have_it_as_theirs(self):
        for circle, other in sample_pairs(153, 60):
            made = [with_form(mixed(circle, many, other, beside)) for many,
                beside in itertools.product((-2, 0, 1, 3), repeat=2) if many or beside]
            made = sorted({third for third in made if third is not None})
            for first, second in itertools.combinations(made, 2):
                self.assertEqual(pencil_kind(first, second), pencil_kind(circle, other))
                self.assertTrue(in_pencil(first, second, circle) and in_pencil(first, second, other))

    def test_told_rounds_through_a_place(self):
        for circle, other, place, expected in [
            (UNIT, UPRIGHT, (2, 0, 1), (2, -3, 0, -2)), (UNIT, UPRIGHT, (0, 1, 1), None), (UNIT, UPRIGHT, FAR, UPRIGHT),
            (UNIT, (1, 0, 0, -4), (3, 0, 1), (1, 0, 0, -9)), (UNIT, (1, 0, 0, -4), (0, 0, 1), None),
            (UNIT, (1, 0, 0, -4), FAR, None),
            (UNIT, (0, 1, 0, -1), (1, 0, 1), None), (UNIT, (0, 1, 0, -1), (0, 0, 1), (1, -1, 0, 0)),
            (UPRIGHT, FLAT, (1, 1, 1), (0, 1, -1, 0)),
            (UPRIGHT, FLAT, FAR, None), (UPRIGHT, (0, 1, 0, -1), FAR, None), (UPRIGHT, (0, 1, 0, -1), (5, 3, 1), (0, 1, 0, -5)),
        ]:
            self.same_by_name(pencil_round, {"circle": circle, "other": other, "place": place}, expected)

    def test_rounds_through_a_place(self):
        for circle, other in sample_pairs(154, 120):
            for place in PLACES[:12]:
                made = pencil_round(circle, other, place)
                numbers = mixed(circle, value_at(other, place), other, -value_at(circle, place))
                self.same_by_name(pencil_round, {"circle": circle, "other": other, "place": place},
                    with_form(numbers) if any(numbers) else None)
                if made is None:
                    # A place of all rounds, or the one that a row of the pencil has alone.
                    alone = product(numbers, numbers) == 0 and any(numbers) and pencil_kind(circle, other) == "about"
                    self.assertTrue(alone or place in common_places(circle, other))
                else:
                    self.assertEqual((value_at(made, place), in_pencil(circle, other, made)), (0, True))

    def test_common_places(self):
        for circle, other, expected in [
            (UNIT, UPRIGHT, ((0, -1, 1), (0, 1, 1))), (UNIT, (0, 1, 0, -1), ((1, 0, 1),)), (UNIT, (1, 0, 0, -4), ()),
            (BARE, FLAT, ()),
            (UPRIGHT, FLAT, ((0, 0, 1), FAR)), (UPRIGHT, (0, 1, 0, -1), (FAR,)), (UNIT, (0, 2, 0, -1), ()),
            ((0, 1, 0, -BIG), (0, 0, 1, BIG), (FAR, (BIG, -BIG, 1))),
        ]:
            self.same_by_name(common_places, {"circle": circle, "other": other}, expected)
            self.same_by_name(common_places, {"circle": other, "other": circle}, expected)
        for circle, other in sample_pairs(155, 200):
            places = common_places(circle, other)
            self.assertEqual(places, tuple(sorted(set(places))))
            for place in PLACES + list(places):
                self.assertEqual(value_at(circle, place) == 0 == value_at(other, place), place in places)
            if shared(circle, other) == 1:
                self.assertEqual(places, (touching_place(circle, other),))


class Upright(ArgumentCase):
    def test_told_ones(self):
        for circle, other, place, expected in [
            (UNIT, UPRIGHT, (2, 0, 1), FLAT), (UNIT, (1, 0, 0, -4), (1, 1, 1), (0, 1, -1, 0)),
            (UNIT, (1, 0, 0, -4), (0, 0, 1), None),
            (UNIT, (1, 0, 0, -4), FAR, None), (UNIT, UPRIGHT, (0, 1, 1), None), (UNIT, UPRIGHT, (0, 2, 1), (2, 0, -5, 2)),
            (UPRIGHT, FLAT, (3, 4, 1), (1, 0, 0, -25)), (UPRIGHT, FLAT, (0, 0, 1), None), (UPRIGHT, FLAT, FAR, None),
            (UPRIGHT, (0, 1, 0, -1), (5, 7, 1), (0, 0, 1, -7)), (UPRIGHT, (0, 1, 0, -1), FAR, None),
            (UNIT, (0, 1, 0, -1), (1, 0, 1), None),
            (UNIT, (0, 1, 0, -1), (0, 0, 1), FLAT), (UNIT, (0, 1, 0, -1), (1, 1, 1), (1, -2, -1, 1)),
        ]:
            self.same_by_name(upright_round, {"circle": circle, "other": other, "place": place}, expected)
            self.same_by_name(upright_round, {"circle": other, "other": circle, "place": place}, expected)

    def test_samples(self):
        kinds = {"through": "about", "about": "through", "touching": "touching"}
        for circle, other in sample_pairs(156, 150):
            found = []
            for place in PLACES[:13]:
                made = upright_round(circle, other, place)
                if made is None:
                    # Such a place is common to all rounds of the one or of the other pencil.
                    self.assertIsNone(pencil_round(circle, other, place))
                else:
                    self.assertEqual((value_at(made, place), product(made, circle), product(made, other)), (0, 0, 0))
                    self.same_by_name(upright_round, {"circle": circle, "other": other, "place": place}, made)
                    found.append(made)
                    third = pencil_round(circle, other, (2, 5, 7))
                    self.assertTrue(third is None or product(made, third) == 0)
            for first, second in itertools.combinations(sorted(set(found)), 2):
                self.assertEqual(pencil_kind(first, second), kinds[pencil_kind(circle, other)])

    def test_wrong_arguments(self):
        wrong, place = (InvalidRound, WRONG_ROUNDS), (InvalidPlace, WRONG_PLACES)
        pair = {"circle": UNIT, "other": UPRIGHT}
        for function in (pencil_kind, common_places, count_exchanging, exchanging):
            self.check_all_given(function, pair, {"circle": wrong, "other": wrong})
        for function in (pencil_round, upright_round):
            self.check_all_given(function, {**pair, "place": FAR}, {"circle": wrong, "other": wrong, "place": place})
        self.check_all_given(in_pencil, {**pair, "third": BARE}, {"circle": wrong, "other": wrong, "third": wrong})

    def test_the_same_round_comes_last(self):
        for function, more in [
            (pencil_kind, {}), (common_places, {}), (count_exchanging, {}), (exchanging, {}), (pencil_round, {"place": FAR}),
            (upright_round, {"place": FAR}), (in_pencil, {"third": BARE}), (in_pencil, {"third": UNIT}),
        ]:
            for circle in ROUNDS:
                self.assertEqual(self.raised(Same, function, circle, circle, *more.values()).given, circle)
                self.assertEqual(self.raised(Same, function, circle=circle, other=circle, **more).given, circle)
        for function in (pencil_round, upright_round):
            self.assertIsNone(self.raised(InvalidPlace, function, UNIT, UNIT, None).given)
        self.assertIsNone(self.raised(InvalidRound, in_pencil, UNIT, UNIT, None).given)


class Exchanging(ArgumentCase):
    def test_told_ones(self):
        for circle, other, many, expected in [
            (UNIT, (1, 0, 0, -4), 1, ((1, 0, 0, -2),)), (UPRIGHT, FLAT, 2, ((0, 1, -1, 0), (0, 1, 1, 0))),
            (UPRIGHT, (0, 1, 1, 0), 2, ()),
            (UPRIGHT, (0, 1, 0, -2), 1, ((0, 1, 0, -1),)), (UNIT, BARE, 1, ()), (UNIT, (0, 1, 0, -1), 1, ((1, 2, 0, -3),)),
            (UNIT, UPRIGHT, 2, ((1, -2, 0, -1), (1, 2, 0, -1))), (BARE, (1, 0, 0, -12), 1, ((1, 0, 0, -6),)), (BARE, FLAT, 2, ()),
        ]:
            for first, second in ((circle, other), (other, circle)):
                self.same_by_name(exchanging, {"circle": first, "other": second}, expected)
                self.same_by_name(count_exchanging, {"circle": first, "other": second}, many)

    def test_mirrors_lead_each_to_the_other_one(self):
        samples = Samples(157)
        whole = 0
        for circle, other in sample_pairs(158, 200) + [(one, mirrored_round(two, one)) for one, two in sample_pairs(159, 100)]:
            if circle == other:
                continue
            made = exchanging(circle, other)
            size = product(circle, circle) * product(other, other)
            many = 2 if pencil_kind(circle, other) == "through" else 1
            self.same_by_name(count_exchanging, {"circle": circle, "other": other}, many)
            self.assertEqual(len(made), many if isqrt(size) ** 2 == size else 0)
            self.assertEqual(made, tuple(sorted(set(made))))
            for one in made:
                whole += 1
                self.assertTrue(is_round(one) and in_pencil(circle, other, one))
                self.assertEqual((mirrored_round(one, circle), mirrored_round(one, other)), (other, circle))
                self.assertEqual(led_round(mirror_in(one), circle), other)
            chart = samples.chart()
            moved = exchanging(led_round(chart, circle), led_round(chart, other))
            self.assertEqual(moved, tuple(sorted(led_round(chart, one) for one in made)))
        self.assertGreater(whole, 150)


class Kept(ArgumentCase):
    def root(self, chart):
        a, b, c, d = [value_of(number) for number in chart[1:]]
        size = int((a * d - b * c).norm())
        return isqrt(size) if isqrt(size) ** 2 == size else None

    def charts(self, seed, many):
        samples = Samples(seed)
        special = [STAYS, SPIN, SLIDE, FLIP] + [mirror_in(circle) for circle in ROUNDS[:12]]
        while len(special) < many:
            chart = samples.chart(samples.choice((1, 2, 4)))
            mirrors = after(mirror_in(samples.circle(3)), mirror_in(samples.circle(3)))
            turned = after(chart, after(samples.choice(special[:16]), back(chart)))
            special.append(samples.choice((chart, mirrors, turned, after(mirrors, mirror_in(samples.circle(2))))))
        return special

    def test_told_rounds(self):
        for chart, circle, expected in [
            (FLIP, UNIT, -1), (SPIN, UNIT, 1), (SLIDE, UPRIGHT, 0), (SLIDE, FLAT, 1), (STAYS, BARE, 1),
            (mirror_in(UNIT), UNIT, -1),
            (mirror_in(UNIT), UPRIGHT, 1), (mirror_in(UNIT), BARE, 0), (SPIN, UPRIGHT, 0), (after(SPIN, SPIN), UPRIGHT, -1),
            (map_of(0, (2, 0), (0, 0), (0, 0), (1, 0)), UPRIGHT, 1), (map_of(0, (-2, 0), (0, 0), (0, 0), (1, 0)), UPRIGHT, -1),
            (map_of(0, (1, 1), (0, 0), (0, 0), (1, 0)), UPRIGHT, 0), (map_of(0, (0, 0), (3, 0), (1, 0), (0, 0)), BARE, -1),
            (map_of(1, (1, 0), (0, 0), (0, 0), (1, 0)), BARE, 1),
        ]:
            self.same_by_name(keeps_round, {"chart": chart, "circle": circle}, expected)

    def test_kept_rounds_and_their_sides(self):
        samples = Samples(160)
        found = []
        for chart in self.charts(161, 150):
            for circle in [samples.circle(3), samples.choice(ROUNDS)] + [one for one in (any_kept(chart, 1),
                any_kept(chart, -1)) if one]:
                places = [place for place in PLACES[:12] if value_at(circle, place)]
                ways = {side_of(circle, place) * side_of(circle, led_place(chart, place)) for place in places}
                expected = 0 if led_round(chart, circle) != circle else 1 if ways == {1} else -1
                self.assertTrue(expected != -1 or ways == {-1})
                self.same_by_name(keeps_round, {"chart": chart, "circle": circle}, expected)
                found.append(expected)
        self.assertGreater(min(found.count(way) for way in (-1, 0, 1)), 50)

    def test_told_rows(self):
        for chart, way, expected in [
            (SLIDE, 1, ((0, 0, 1, 0), (0, 0, 0, 1))), (SLIDE, -1, ()), (STAYS, -1, ()),
            (STAYS, 1, ((1, 0, 0, 0), (0, 1, 0, 0), (0, 0, 1, 0), (0, 0, 0, 1))),
            (SPIN, 1, ((1, 0, 0, 0), (0, 0, 0, 1))), (SPIN, -1, ()),
            (FLIP, 1, ((0, 1, 0, 0), (1, 0, 0, 1))), (FLIP, -1, ((0, 0, 1, 0), (-1, 0, 0, 1))),
            (mirror_in(BARE), -1, ((-1, 0, 0, 3),)),
            (map_of(0, (1, 1), (0, 0), (0, 0), (1, 0)), 1, ()), (map_of(0, (1, 1), (0, 0), (0, 0), (1, 0)), -1, ()),
        ]:
            self.same_by_name(kept_rows, {"chart": chart, "way": way}, expected)

    def test_rows_that_are_led_back(self):
        many = {}
        for chart in self.charts(162, 200):
            root = self.root(chart)
            for way in (1, -1):
                rows = kept_rows(chart, way)
                self.same_by_name(kept_rows, {"chart": chart, "way": way}, rows)
                self.assertTrue(root is not None or rows == ())
                many[len(rows), way] = many.get((len(rows), way), 0) + 1
                if root is None:
                    continue
                for row in rows:
                    self.assertEqual(led_back_by_words(chart, row), tuple(way * root * number for number in row))
                    self.assertEqual(gcd(*row), 1)
                # All that are kept are the solutions, so that as many numbers are free as there are rows.
                columns = [mixed(led_back_by_words(chart, unit), 1, unit, -way * root) for unit in kept_rows(STAYS, 1)]
                self.assertEqual(len(rows), 4 - rank([[column[at] for column in columns] for at in range(4)]))
                self.check_free_numbers(columns, rows)
        self.assertGreater(len(many), 6)

    def check_free_numbers(self, columns, rows):
        equations = [[column[at] for column in columns] for at in range(4)]
        # A number is free if its column is a sum of multiples of those before it.
        ranks = [rank([row[:many] + [0] * (4 - many) for row in equations]) for many in range(5)]
        free = [at for at in range(4) if ranks[at + 1] == ranks[at]]
        self.assertEqual(len(free), len(rows))
        for at, row in zip(free, rows):
            self.assertEqual([row[other] > 0 if other == at else row[other] == 0 for other in free], [True] * len(free))

    def test_any_kept(self):
        for chart in self.charts(163, 200):
            for way in (1, -1):
                rows = kept_rows(chart, way)
                for made in (any_kept(chart, way), any_kept(chart=chart, way=way)):
                    if made is None:
                        self.assertTrue(len(rows) == 0 or (len(rows) == 1 and product(rows[0], rows[0]) <= 0))
                    else:
                        self.assertTrue(is_round(made))
                        self.assertEqual((keeps_round(chart, made), led_round(chart, made)), (way, made))
        self.assertIsNone(any_kept(map_of(0, (1, 1), (0, 0), (0, 0), (1, 0)), 1))
        # This one leads each point of the ball's skin to the one across; it keeps a row with its side that is no round's.
        across = map_of(1, (0, 0), (-1, 0), (1, 0), (0, 0))
        self.assertEqual((kept_rows(across, 1), len(kept_rows(across, -1)), any_kept(across, 1)), (((1, 0, 0, 1),), 3, None))
        self.assertEqual(any_kept(mirror_in(BARE), -1), BARE)
        # All that this one keeps with their sides are sums of multiples of two rows, none of which is a round's.
        self.assertEqual(keeps_round(SPIN, any_kept(SPIN, 1)), 1)

    def test_great_numbers(self):
        samples = Samples(164)
        for _ in range(30):
            circle, chart = samples.circle(BIG), samples.chart(BIG)
            moved = after(chart, after(mirror_in(circle), back(chart)))
            self.assertEqual(keeps_round(moved, led_round(chart, circle)), -1)
            self.assertEqual(any_kept(moved, -1), led_round(chart, circle))
            self.assertEqual(keeps_round(moved, any_kept(moved, 1)), 1)
            self.assertEqual(len(kept_rows(moved, 1)), 3)

    def test_wrong_arguments(self):
        chart = (InvalidMap, WRONG_MAPS)
        self.check_all_given(keeps_round, {"chart": SPIN, "circle": UNIT},
            {"chart": chart, "circle": (InvalidRound, WRONG_ROUNDS)})
        for function in (kept_rows, any_kept):
            for good in (SPIN, map_of(0, (1, 1), (0, 0), (0, 0), (1, 0))):
                self.check_all_given(function, {"chart": good, "way": 1}, {"chart": chart, "way": (InvalidSign, WRONG_WAYS)})


if __name__ == "__main__":
    unittest.main()
