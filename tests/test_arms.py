"""Promise [16]: rings, cells, arms, and the map of an arm."""

import itertools
import unittest
from fractions import Fraction

from drawarms.arms import arm_map, cell_map, is_arm, is_cell, lets, pen_of, pins_of
from drawarms.errors import InvalidArm, InvalidCell, InvalidPlace
from drawarms.maps import after, is_map, led_place, mirror_in
from tests.support import BIG, FAR, LINES, NO_TUPLES, PLACES, RING, STAYS, STUBBORN, WRONG_CELLS, WRONG_LINES
from tests.support import WRONG_PLACES, WRONG_POWERS, WRONG_RATIOS, WRONG_RINGS, ArgumentCase, Samples, Value
from tests.support import place_with, value_of

CARRY = ("carry", (1, 0, 1))
GROW = ("grow", (0, 0, 1), (2, 0, 1), ((1, 1), (4, 1)))
TURNABOUT = ("turnabout", (0, 0, 1), (4, 1), RING)
MIRROR = ("mirror", (0, 1, -1, 0))
CELLS = [
    CARRY, GROW, TURNABOUT, MIRROR, ("carry", (-3, 4, 5)), ("carry", (BIG, 0, 1)), ("grow", (1, 2, 3), (-1, 0, 1), RING),
    ("grow", (5, 0, 1), (3, 4, 5), ((1, 3), (1, 2))), ("turnabout", (1, -2, 3), (-5, 7), ((1, BIG), (BIG, 1))),
    ("turnabout", (BIG, 1, 2), (1, BIG), RING), ("turnabout", (0, 0, 1), (-1, 1), RING),
] + [("mirror", line) for line in LINES]
ARM = (TURNABOUT, CARRY)


def led_by_words(cell, place):
    """Where a cell leads a place, by the words of [16]."""
    spot = value_of(place)
    if cell[0] == "carry":
        return place_with(spot + value_of(cell[1]))
    if cell[0] == "grow":
        return place_with(value_of(cell[1]) + value_of(cell[2]) * (spot - value_of(cell[1])))
    if cell[0] == "turnabout":
        pole = value_of(cell[1])
        return FAR if spot == pole else place_with(pole + Value(Fraction(*cell[2])) / (spot - pole).conjugate())
    _, l, m, k = cell[1]
    height = (l * spot.real + m * spot.imaginary + k) / Fraction(l * l + m * m)
    return place_with(spot - Value(2 * l * height, 2 * m * height))


def lets_by_words(cell, place):
    if place == FAR:
        return False
    if len(cell) == 2:
        return True
    square = (value_of(place) - value_of(cell[1])).norm()
    return Fraction(*cell[3][0]) <= square <= Fraction(*cell[3][1])


def pins_by_words(arm, place):
    pins = [place]
    for cell in arm:
        if not lets_by_words(cell, pins[-1]):
            return None
        pins.append(led_by_words(cell, pins[-1]))
    return None if place == FAR else tuple(pins)


class Cells(ArgumentCase):
    def test_is_cell(self):
        samples = Samples(40)
        for cell in CELLS + [samples.cell() for _ in range(100)]:
            self.assertIs(is_cell(cell), True)
            self.assertIs(is_cell(value=cell), True)
        for value in WRONG_CELLS:
            self.assertIs(is_cell(value), False)
            self.assertIs(is_cell(value=value), False)

    def test_each_part_of_a_cell(self):
        for cells, at, wrongs in [
            (("carry", (1, 0, 1)), 1, WRONG_RATIOS + [(0, 0, 1)]), (GROW, 1, WRONG_RATIOS),
            (GROW, 2, WRONG_RATIOS + [(0, 0, 1), (1, 0, 1)]), (GROW, 3, WRONG_RINGS), (TURNABOUT, 1, WRONG_RATIOS),
            (TURNABOUT, 2, WRONG_POWERS), (TURNABOUT, 3, WRONG_RINGS),
            (MIRROR, 1, WRONG_LINES),
        ]:
            for wrong in wrongs:
                cell = cells[:at] + (wrong,) + cells[at + 1:]
                self.assertIs(is_cell(cell), False)
                self.assertIs(self.raised(InvalidCell, cell_map, cell).given, cell)

    def test_the_map_leads_as_the_cell_does(self):
        samples = Samples(41)
        for cell in CELLS + [samples.cell() for _ in range(100)]:
            chart = cell_map(cell)
            self.assertTrue(is_map(chart))
            self.assertEqual(chart[0], int(cell[0] in ("turnabout", "mirror")))
            for place in PLACES[1:]:
                self.assertEqual(led_place(chart, place), led_by_words(cell, place))

    def test_the_pole_and_the_far_place(self):
        for cell in CELLS:
            chart = cell_map(cell)
            if cell[0] == "turnabout":
                self.assertEqual((led_place(chart, cell[1]), led_place(chart, FAR)), (FAR, cell[1]))
            else:
                self.assertEqual(led_place(chart, FAR), FAR)
            if cell[0] == "grow":
                self.assertEqual(led_place(chart, cell[1]), cell[1])

    def test_told_maps(self):
        self.same_by_name(cell_map, {"cell": CARRY}, (0, (1, 0), (1, 0), (0, 0), (1, 0)))
        self.same_by_name(cell_map, {"cell": GROW}, (0, (2, 0), (0, 0), (0, 0), (1, 0)))
        self.same_by_name(cell_map, {"cell": TURNABOUT}, (1, (0, 0), (4, 0), (1, 0), (0, 0)))
        self.same_by_name(cell_map, {"cell": MIRROR}, mirror_in((0, 1, -1, 0)))
        self.assertEqual(cell_map(("turnabout", (0, 0, 1), (-4, 1), RING)), (1, (0, 0), (4, 0), (-1, 0), (0, 0)))

    def test_wrong_cells(self):
        self.check_all_given(cell_map, {"cell": CARRY}, {"cell": (InvalidCell, WRONG_CELLS)})


class Arms(ArgumentCase):
    def test_is_arm(self):
        for arm in [(), (CARRY,), ARM, (CARRY,) * 4, tuple(CELLS[:4])]:
            self.assertIs(is_arm(arm), True)
            self.assertIs(is_arm(value=arm), True)
        for value in NO_TUPLES + [[CARRY], (CARRY,) * 5, CARRY, ((CARRY,),), (CARRY, ()), (CARRY, None), (ARM,), (STUBBORN,)]:
            self.assertIs(is_arm(value), False)
            self.assertIs(is_arm(value=value), False)

    def test_the_empty_arm(self):
        self.same_by_name(arm_map, {"arm": ()}, STAYS)
        for place in PLACES[1:]:
            self.same_by_name(lets, {"arm": (), "place": place}, True)
            self.same_by_name(pen_of, {"arm": (), "place": place}, place)
            self.same_by_name(pins_of, {"arm": (), "place": place}, (place,))

    def test_the_far_place_is_not_let(self):
        for arm in [()] + [(cell,) for cell in CELLS]:
            self.same_by_name(lets, {"arm": arm, "place": FAR}, False)
            self.assertIsNone(pen_of(arm, FAR))
            self.assertIsNone(pins_of(arm=arm, place=FAR))

    def test_told_arms(self):
        self.same_by_name(arm_map, {"arm": ARM}, (1, (1, 0), (4, 0), (1, 0), (0, 0)))
        self.same_by_name(pen_of, {"arm": ARM, "place": (2, 0, 1)}, (3, 0, 1))
        self.same_by_name(pins_of, {"arm": ARM, "place": (0, 1, 1)}, ((0, 1, 1), (0, 4, 1), (1, 4, 1)))
        self.same_by_name(lets, {"arm": ARM, "place": (4, 0, 1)}, False)
        self.assertIsNone(pen_of(ARM, (4, 0, 1)))
        self.assertIsNone(pins_of(ARM, (4, 0, 1)))

    def test_a_ring_and_its_ends(self):
        told = [(0, 0, 1), (99, 0, 100), (1, 0, 1), (3, 4, 5), (2, 0, 1), (0, 3, 1), (9, 12, 5), (301, 0, 100)]
        self.assertEqual([lets((TURNABOUT,), place) for place in told], [False, False, True, True, True, True, True, False])
        close = ("grow", (0, 0, 1), (2, 0, 1), ((BIG * BIG - 1, BIG * BIG), (BIG * BIG + 1, BIG * BIG)))
        self.assertEqual([lets((close,), place) for place in ((1, 0, 1), (BIG - 1, 0, BIG), (BIG + 1, 0, BIG))], [True, False, False])

    def test_a_later_cell_bars(self):
        arm = ARM + (GROW,)
        self.assertEqual([pen_of(arm, place) for place in ((0, 3, 1), (2, 0, 1), (4, 0, 1))], [(6, 8, 3), None, None])
        self.assertEqual([lets(arm[:2], (2, 0, 1)), lets(arm, (2, 0, 1))], [True, False])

    def test_arms_let_and_lead_as_the_words_say(self):
        samples = Samples(42)
        let = 0
        for _ in range(400):
            arm, chart = samples.arm(), STAYS
            for place in [samples.ratio(4) for _ in range(5)] + [FAR]:
                pins = pins_by_words(arm, place)
                self.assertEqual(pins_of(arm, place), pins)
                self.assertIs(lets(arm, place), pins is not None)
                self.assertEqual(pen_of(arm, place), None if pins is None else pins[-1])
                if pins is not None:
                    let += 1
                    self.assertEqual(led_place(arm_map(arm), place), pins[-1])
                    self.assertNotIn(FAR, pins)
            for cell in arm:
                chart = after(cell_map(cell), chart)
            self.assertEqual(arm_map(arm), chart)
        self.assertGreater(let, 300)

    def test_an_arm_cut_in_two(self):
        samples = Samples(43)
        for _ in range(100):
            arm = samples.arm()
            for at in range(len(arm) + 1):
                self.assertEqual(after(arm_map(arm[at:]), arm_map(arm[:at])), arm_map(arm))
                for place in PLACES[1:12]:
                    middle = pen_of(arm[:at], place)
                    self.assertEqual(pen_of(arm, place), None if middle is None else pen_of(arm[at:], middle))

    def test_wrong_arms(self):
        for function, more in ((arm_map, {}), (lets, {"place": FAR}), (pen_of, {"place": FAR}), (pins_of, {"place": FAR})):
            for wrong in NO_TUPLES + [[CARRY], [()]]:
                self.check_index(function, wrong, more, None)
            for wrong in WRONG_CELLS:
                self.check_index(function, (wrong,), more, 0)
                self.check_index(function, (GROW, CARRY, wrong, None, CARRY), more, 2)
                self.check_index(function, (GROW, CARRY, MIRROR, wrong), more, 3)
                self.check_index(function, (GROW, CARRY, MIRROR, CARRY, wrong), more, 4)
            for many in (5, 6, 20):
                self.check_index(function, (CARRY,) * many, more, 4)
            self.check_index(function, CARRY, more, 0)

    def check_index(self, function, arm, more, index):
        for caught in (self.raised(InvalidArm, function, arm, *more.values()), self.raised(InvalidArm, function, arm=arm, **more)):
            self.assertIs(caught.index.__class__, index.__class__)
            self.assertEqual(caught.index, index)

    def test_wrong_places(self):
        for function in (lets, pen_of, pins_of):
            wrongs = {"arm": (InvalidArm, []), "place": (InvalidPlace, WRONG_PLACES)}
            self.check_all_given(function, {"arm": ARM, "place": (1, 0, 1)}, wrongs)
            self.assertEqual(self.raised(InvalidArm, function, (CARRY, None), None).index, 1)
            self.assertIsNone(self.raised(InvalidPlace, function, (), None).given)


class Rings(ArgumentCase):
    def test_wrong_rings_make_no_cell(self):
        for wrong, cell in itertools.product(WRONG_RINGS, (GROW, TURNABOUT)):
            self.assertIs(is_cell(cell[:3] + (wrong,)), False)

    def test_rings(self):
        for ring in [((1, 2), (2, 3)), ((1, BIG), (1, BIG - 1)), ((BIG, 1), (BIG + 1, 1)), ((99, 100), (1, 1))]:
            self.assertIs(is_cell(GROW[:3] + (ring,)), True)


if __name__ == "__main__":
    unittest.main()
