"""Promises [34] and [35]: mirror rows, the cells that they are, and which of them fit tests."""

import itertools
import unittest
from fractions import Fraction
from math import gcd

from drawarms.arms import cell_map, is_cell
from drawarms.errors import InvalidCell, InvalidMirrorRow, InvalidPlace, InvalidRing, InvalidTests, NoRowFits
from drawarms.maps import after, is_map, led_place, mirror_in
from drawarms.rounds import is_round
from drawarms.singles import cell_of_row, cells_that_fit, fitting_row, mirroring, row_fits, row_of_cell, rows_base
from drawarms.singles import rows_freedom, settled_image
from tests.oracles import product
from tests.support import BIG, FAR, PLACES, RING, ROUNDS, STAYS, WRONG_CELLS, WRONG_PLACES, WRONG_RINGS
from tests.support import WRONG_MIRROR_ROWS, ArgumentCase, Samples, Value, indexes_of_wrong, place_with, value_of
from tests.test_readback import CROSSED, NINE, WRONG_TESTS

ZERO, ONE, TWO = (0, 0, 1), (1, 0, 1), (2, 0, 1)
FOUR_GOAL = ((ONE, (4, 0, 1)),)
KEPT = FOUR_GOAL + ((TWO, TWO),)
# Rows with D above 0, below 0, of circles without whole places, of lines with and without whole places near 0.
ROWS = ROUNDS + [(1, 0, 0, 1), (1, 0, 0, 3), (2, 1, -3, 5), (1, 2, 0, 2), (3, -8, 0, 8), (BIG, 1, 1, 5),
    (1, 2 * BIG, 0, BIG * BIG + 1),
                 (5, 0, 0, BIG)]
WRONG_OTHER_CELLS = [("carry", ONE), ("grow", ZERO, TWO, RING), ("carry", (BIG, 1, 3)),
    ("grow", ONE, (0, 1, 1), ((1, 3), (1, 2)))]
DOUBLE = ("turnabout", ZERO, (4, 1), RING)


def size(row):
    return product(row, row)


def with_form(numbers):
    """The mirror row of four numbers."""
    common = gcd(*numbers)
    row = tuple(number // common for number in numbers)
    return row if row > (0, 0, 0, 0) else tuple(-number for number in row)


def sample_row(samples, size_of=6):
    while True:
        numbers = [samples.whole(size_of) for _ in range(4)]
        if samples.whole() > 8:
            numbers[0] = 0
        if any(numbers) and size(numbers) != 0:
            return with_form(numbers)


def image(row, place):
    """Where the mirror row leads a place, by the words of the cells."""
    q, l, m, k = row
    if q == 0:
        return led_place(mirror_in(row), place)
    pole = Value(Fraction(-l, 2 * q), Fraction(-m, 2 * q))
    if place == FAR:
        return place_with(pole)
    apart = value_of(place) - pole
    if apart == Value(0):
        return FAR
    return place_with(pole + Value(Fraction(size(row), 4 * q * q)) / apart.conjugate())


def equations(tests):
    """The real equations of [35], worked out number by number."""
    rows = []
    for (p, s, r), (w, x, v) in tests:
        taken, goal = Value(p, -s), Value(w, x)
        parts = [Value(2) * goal * taken, goal * Value(r) + taken * Value(v),
                 Value(0, 1) * (taken * Value(v) - goal * Value(r)), Value(2 * r * v)]
        rows.append([part.real for part in parts])
        rows.append([part.imaginary for part in parts])
    return rows


def stairs(rows):
    """The columns in which the stairs of equations begin."""
    rows, begun = [list(row) for row in rows], []
    for column in range(4):
        first = next((row for row in rows if row[column] != 0), None)
        if first is not None:
            rows.remove(first)
            rows = [[a - row[column] / first[column] * b for a, b in zip(row, first)] for row in rows]
            begun.append(column)
    return begun


def turns(rows):
    """How many rows with D above 0, below 0 and 0 an upright base of their space has."""
    rows, signs = [[Fraction(number) for number in row] for row in rows], []
    while rows:
        sums = rows + [[a + b for a, b in zip(*pair)] for pair in itertools.combinations(rows, 2)]
        row = next((row for row in sums if size(row) != 0), None)
        if row is None:
            return signs + [0] * len(rows)
        left = [[a - product(other, row) / size(row) * b for a, b in zip(other, row)] for other in rows]
        signs.append(1 if size(row) > 0 else -1)
        rows = []
        for other in left:
            if rank(rows + [other]) > len(rows):
                rows.append(other)
    return signs


def rank(rows):
    return len(stairs([[Fraction(number) for number in row] for row in rows]))


def sample_tests(samples, many):
    """Tests of places near one another; mostly ones that a mirror row fits."""
    places = samples.places(many, 3)
    if samples.whole() > 0:
        row = sample_row(samples, 3)
        return tuple((place, image(row, place)) for place in places)
    return tuple((place, place if samples.whole() > 4 else samples.place(2)) for place in places)


class Rows(ArgumentCase):
    def test_told_ones(self):
        for row, expected in [
            ((1, 0, 0, 1), (1, (0, 0), (1, 0), (-1, 0), (0, 0))), ((1, 0, 0, -1), (1, (0, 0), (1, 0), (1, 0), (0, 0))),
            ((0, 0, 1, 0), (1, (1, 0), (0, 0), (0, 0), (1, 0))),
        ]:
            self.same_by_name(mirroring, {"row": row}, expected)
        for row, cell in [((3, -8, 0, 8), ("turnabout", (4, 0, 3), (-8, 9), RING)), ((0, 2, 0, -5), ("mirror", (0, 2, 0, -5))),
                          ((1, 0, 0, -4), DOUBLE), ((1, 0, 0, 3), ("turnabout", ZERO, (-3, 1), RING)),
                          ((1, 0, 0, -3), ("turnabout", ZERO, (3, 1), RING)), ((0, 3, 0, -1), ("mirror", (0, 3, 0, -1)))]:
            self.same_by_name(cell_of_row, {"row": row, "ring": RING}, cell)
            self.same_by_name(row_of_cell, {"cell": cell}, row)

    def test_the_told_cell_has_the_told_map(self):
        samples = Samples(200)
        for row in ROWS + [sample_row(samples) for _ in range(150)]:
            chart, ring = mirroring(row), samples.ring()
            cell = cell_of_row(row, ring)
            self.assertTrue(is_map(chart) and is_cell(cell))
            self.assertEqual(cell_map(cell), chart)
            self.assertEqual(cell[0] == "mirror", row[0] == 0)
            if row[0]:
                self.assertEqual((cell[3], cell[2][0] > 0), (ring, size(row) > 0))
            self.assertEqual(row_of_cell(cell), row)
            self.assertEqual(mirroring(row=row), chart)
            self.assertEqual(after(chart, chart), STAYS)
            for place in PLACES + [samples.place()]:
                self.assertEqual(led_place(chart, place), image(row, place))
            if is_round(row):
                self.assertEqual(chart, mirror_in(row))
            elif size(row) < 0:
                self.assertFalse(any(led_place(chart, place) == place for place in PLACES))

    def test_each_cell_has_the_map_of_its_row(self):
        samples = Samples(201)
        found = []
        while len(found) < 150:
            cell = samples.cell()
            if cell[0] in ("turnabout", "mirror"):
                row = row_of_cell(cell)
                self.assertEqual((gcd(*row), row > (0, 0, 0, 0)), (1, True))
                self.assertEqual(mirroring(row), cell_map(cell))
                self.assertEqual(cell_of_row(row, cell[-1] if len(cell) == 4 else RING), cell)
                found.append(cell[0])
        self.assertEqual(row_of_cell(("turnabout", (BIG, 1, 3), (-BIG, 7), RING)),
            with_form((63, -42 * BIG, -42, 7 * (BIG * BIG + 1) + 9 * BIG)))


class Space(ArgumentCase):
    def test_told_ones(self):
        units = ((1, 0, 0, 0), (0, 1, 0, 0), (0, 0, 1, 0), (0, 0, 0, 1))
        for tests, expected in [
            ((), units), (FOUR_GOAL, ((-5, 8, 0, 0), (-1, 0, 0, 4))), (KEPT, ((-1, 0, 0, 4),)),
            # Each place that is its own image is one equation alone, and lies on the round of the row.
            (((ZERO, ZERO),), units[:3]), (((ZERO, ZERO), (ONE, ONE)), ((-1, 1, 0, 0), (0, 0, 1, 0))),
            (((ZERO, ZERO), (ONE, ONE), ((-1, 0, 1), (-1, 0, 1))), ((0, 0, 1, 0),)),
            (((ZERO, ZERO), (ONE, ONE), ((0, 1, 1), (0, 1, 1))), ((-1, 1, 1, 0),)),
            (((FAR, FAR),), units[1:]), (((FAR, ZERO),), (units[0], units[3])), (((ZERO, FAR),), (units[0], units[3])),
            (((FAR, FAR), (ZERO, ZERO)), units[1:3]), (CROSSED, ()), (((FAR, FAR), (FAR, ZERO)), ((0, 0, 0, 1),)),
            (((ZERO, FAR), (ZERO, ZERO)), ((1, 0, 0, 0),)),
        ]:
            self.same_by_name(rows_base, {"tests": tests}, expected)
            self.same_by_name(rows_freedom, {"tests": tests}, len(expected))

    def test_the_base_solves_and_is_free(self):
        samples = Samples(202)
        found = []
        for _ in range(300):
            tests = sample_tests(samples, samples.choice((0, 1, 2, 3, 5, 8)))
            base, told = rows_base(tests), equations(tests)
            begun = stairs(told)
            free = [column for column in range(4) if column not in begun]
            self.assertEqual(len(base), len(free))
            self.same_by_name(rows_freedom, {"tests": tests}, len(free))
            for at, row in zip(free, base):
                self.assertEqual(gcd(*row), 1)
                self.assertGreater(row[at], 0)
                self.assertEqual([row[other] for other in free if other != at], [0] * (len(free) - 1))
                self.assertFalse(any(sum(a * b for a, b in zip(equation, row)) for equation in told))
            found.append(len(base))
        self.assertEqual(set(found), {0, 1, 2, 3, 4})

    def test_row_fits(self):
        for row, tests, expected in [
            ((1, 0, 0, -4), KEPT, True), ((1, 0, 0, -4), (), True), ((1, 0, 0, 4), KEPT, False), ((0, 2, 0, -5), FOUR_GOAL, True),
            ((0, 2, 0, -5), KEPT, False), ((1, 0, 0, 3), ((FAR, ZERO), (ZERO, FAR)), True), ((0, 1, 0, 0), ((FAR, FAR),), True),
            ((1, 0, 0, 1), CROSSED, False), ((1, 0, 0, -4), FOUR_GOAL * 8, True),
        ]:
            self.same_by_name(row_fits, {"row": row, "tests": tests}, expected)
        samples = Samples(203)
        for _ in range(300):
            tests, row = sample_tests(samples, samples.choice((0, 1, 2, 8))), sample_row(samples, 3)
            expected = all(image(row, place) == goal for place, goal in tests)
            self.same_by_name(row_fits, {"row": row, "tests": tests}, expected)
            solves = not any(sum(a * b for a, b in zip(equation, row)) for equation in equations(tests))
            self.assertEqual(expected, solves)


# Only rows with D = 0 solve these: the far place goes to two places, or two places to one.
NO_ROW = [(((FAR, FAR), (FAR, ZERO)), 1), (((ZERO, FAR), (ZERO, ZERO)), 1), (((ONE, ZERO), (ZERO, ZERO)), 1), (CROSSED, 0)]


class Fitting(ArgumentCase):
    def test_told_ones(self):
        for tests, words in [
            ((), ("above", "below", "line")), (FOUR_GOAL, ("above", "below", "line")), (KEPT, ("above",)),
            (((FAR, FAR),), ("line",)), (((FAR, FAR), (ZERO, ONE)), ("line",)), (((FAR, ZERO),), ("above", "below")),
            (((FAR, ZERO), (ONE, TWO)), ("above",)), (((FAR, ZERO), (ONE, (-2, 0, 1))), ("below",)),
            (((ZERO, ZERO),), ("above", "line")), (((ZERO, ZERO), (ONE, ONE), (TWO, TWO)), ("line",)),
            (((ZERO, ZERO), (ONE, ONE), ((0, 1, 1), (0, 1, 1))), ("above",)),
            (((ZERO, ONE), (ONE, ZERO)), ("above", "below", "line")),
            (((ZERO, ONE), (TWO, (3, 0, 1))), ("above",)),
            (((ZERO, TWO), (ONE, (3, 0, 1))), ("below",)), (((ZERO, ONE), (TWO, (-1, 0, 1))), ("line",)),
        ]:
            self.same_by_name(cells_that_fit, {"tests": tests}, words)
            self.assertTrue(row_fits(fitting_row(tests), tests))
        for tests, freedom in NO_ROW:
            self.same_by_name(rows_freedom, {"tests": tests}, freedom)
            self.same_by_name(cells_that_fit, {"tests": tests}, ())
            self.same_by_name(fitting_row, {"tests": tests}, None)
        self.same_by_name(fitting_row, {"tests": KEPT}, (1, 0, 0, -4))

    def test_when_a_row_fits(self):
        samples = Samples(204)
        found = []
        for _ in range(400):
            tests = sample_tests(samples, samples.choice((0, 1, 1, 2, 2, 3, 5)))
            base = rows_base(tests)
            signs = turns(base)
            self.assertLessEqual(signs.count(-1), 1)
            for made in (fitting_row(tests), fitting_row(tests=tests)):
                self.assertEqual(made is None, not any(signs))
                self.assertEqual(made is None, len(base) == 0 or (len(base) == 1 and size(base[0]) == 0))
                if made is not None:
                    self.assertEqual(with_form(made), made)
                    self.assertTrue(size(made) != 0 and row_fits(made, tests))
            lines = [row for row in base if row[0] == 0] + [
                [a * other[0] - row[0] * b for a, b in zip(row, other)] for row, other in itertools.combinations(base, 2)]
            words = []
            if 1 in signs and any(row[0] for row in base):
                words.append("above")
            if -1 in signs:
                words.append("below")
            if any(row[1] or row[2] for row in lines):
                words.append("line")
            self.same_by_name(cells_that_fit, {"tests": tests}, tuple(words))
            found.append(tuple(words))
        self.assertGreaterEqual(len(set(found)), 7)

    def test_each_told_word_has_a_row_and_no_other_one(self):
        samples = Samples(205)
        for _ in range(120):
            tests = sample_tests(samples, samples.choice((0, 1, 1, 2, 3)))
            base, words = rows_base(tests), set()
            for many in itertools.product(range(-6, 7),
                repeat=len(base)) if len(base) < 4 else [[samples.whole(4) for _ in range(4)]
                                                                                               for _ in range(400)]:
                row = [sum(number * one[at] for number, one in zip(many, base)) for at in range(4)]
                if any(row) and size(row) != 0:
                    words.add("line" if row[0] == 0 else "above" if size(row) > 0 else "below")
                    self.assertTrue(row_fits(with_form(row), tests))
            self.assertLessEqual(words, set(cells_that_fit(tests)))


class Settled(ArgumentCase):
    def test_told_ones(self):
        for tests, place, expected in [
            (KEPT, (0, 1, 1), (0, 4, 1)), (FOUR_GOAL, (0, 1, 1), None), (FOUR_GOAL, (4, 0, 1), ONE), (FOUR_GOAL, ONE, (4, 0, 1)),
            ((), ZERO, None), ((), FAR, None), (((FAR, FAR),), FAR, FAR), (((FAR, FAR),), ZERO, None),
            (((FAR, ZERO),), ZERO, FAR),
            (((FAR, ZERO),), FAR, ZERO), (((FAR, ZERO),), ONE, None), (KEPT, FAR, ZERO), (KEPT, ZERO, FAR),
            (KEPT, (BIG, 0, 1), (4, 0, BIG)),
            # Whatever round or line goes through both, what lies between them stays on it.
            (((ZERO, ZERO), (ONE, ONE)), TWO, None), (((ZERO, ZERO), (ONE, ONE), (TWO, TWO)), (3, 1, 1), (3, -1, 1)),
        ]:
            self.same_by_name(settled_image, {"tests": tests, "place": place}, expected)

    def test_settled_is_the_same_for_all_rows_that_fit(self):
        samples = Samples(206)
        found = []
        for _ in range(250):
            tests = sample_tests(samples, samples.choice((0, 1, 1, 2, 3)))
            base = rows_base(tests)
            if fitting_row(tests) is None:
                self.raised(NoRowFits, settled_image, tests, ZERO)
                continue
            rows = []
            while len(rows) < 12:
                many = [samples.whole(9) for _ in base]
                row = [sum(number * one[at] for number, one in zip(many, base)) for at in range(4)]
                if any(row) and size(row) != 0:
                    rows.append(with_form(row))
            for place in PLACES[:8] + [test[0] for test in tests] + [test[1] for test in tests] + [samples.place(3)]:
                goals = {image(row, place) for row in rows}
                self.same_by_name(settled_image, {"tests": tests, "place": place}, goals.pop() if len(goals) == 1 else None)
                found.append(settled_image(tests, place) is None)
            for place, goal in tests:
                self.assertEqual((settled_image(tests, place), settled_image(tests, goal)), (goal, place))
        self.assertGreater(min(found.count(True), found.count(False)), 300)

    def test_great_numbers(self):
        row = (BIG, 3, -BIG + 1, 5 * BIG * BIG)
        tests = tuple((place, image(row, place)) for place in PLACES[1:4])
        self.assertEqual(fitting_row(tests), with_form(row))
        self.assertEqual(cells_that_fit(tests), ("below",))
        for place in PLACES:
            self.assertEqual(settled_image(tests, place), image(row, place))

    def test_no_row_fits(self):
        for tests, _ in NO_ROW:
            self.raised(NoRowFits, settled_image, tests, ZERO)
            self.raised(NoRowFits, settled_image, tests=tests, place=FAR)
            self.assertIsNone(self.raised(InvalidPlace, settled_image, tests, None).given)


class WrongArguments(ArgumentCase):
    def test_rows(self):
        row = (InvalidMirrorRow, WRONG_MIRROR_ROWS)
        self.check_all_given(mirroring, {"row": (1, 0, 0, 1)}, {"row": row})
        for good in ((1, 0, 0, 1), (0, 1, 0, 0)):
            self.check_all_given(cell_of_row, {"row": good, "ring": RING}, {"row": row, "ring": (InvalidRing, WRONG_RINGS)})
        self.check_all_given(row_fits, {"row": (1, 0, 0, 1), "tests": ()}, {"row": row, "tests": (InvalidTests, [])})

    def test_cells(self):
        self.check_all_given(row_of_cell, {"cell": DOUBLE}, {"cell": (InvalidCell, WRONG_CELLS + WRONG_OTHER_CELLS)})

    def test_tests(self):
        told = indexes_of_wrong(NINE, WRONG_TESTS, 8)
        for function in (rows_freedom, rows_base, fitting_row, cells_that_fit):
            self.check_indexes(InvalidTests, function, {"tests": ()}, "tests", told)
        self.check_indexes(InvalidTests, row_fits, {"row": (1, 0, 0, 1), "tests": ()}, "tests", told)
        self.check_indexes(InvalidTests, settled_image, {"tests": (), "place": FAR}, "tests", told)
        for tests in ((), FOUR_GOAL, CROSSED):
            self.check_all_given(settled_image, {"tests": tests, "place": FAR},
                {"tests": (InvalidTests, []), "place": (InvalidPlace, WRONG_PLACES)})
        self.assertEqual(self.raised(InvalidTests, settled_image, ((FAR,),), None).index, 0)


if __name__ == "__main__":
    unittest.main()
