"""Promise [40]: the stages of an arm, copies, and which lines maps lead to lines."""

import unittest
from fractions import Fraction

from drawarms.arms import arm_map, pins_of
from drawarms.errors import InvalidArm, InvalidMap, InvalidStage
from drawarms.maps import after, back, is_map, is_straight, led_place, map_of, mirror_in
from drawarms.pens import are_copies, copy_size, stage_map, straight_place, straight_twice
from drawarms.rounds import value_at
from tests.support import ANYTHING, BIG, FAR, LINES, PLACES, RING, STAYS, WRONG_CELLS, WRONG_MAPS, ArgumentCase, Samples
from tests.support import indexes_of_wrong, value_of

ARM = (("turnabout", (0, 0, 1), (4, 1), RING), ("carry", (1, 0, 1)), ("grow", (0, 0, 1), (0, 3, 1), RING))
SLIDE = map_of(0, (1, 0), (1, 0), (0, 0), (1, 0))
EVEN = map_of(0, (0, 0), (4, 0), (1, 0), (0, 0))
FIVE = tuple(("carry", (at + 1, 0, 1)) for at in range(5))


class Stages(ArgumentCase):
    def test_told_ones(self):
        turn, carry = arm_map(ARM[:1]), arm_map(ARM[1:2])
        for stage, other, expected in [(0, 0, STAYS), (3, 3, STAYS), (0, 1, turn), (1, 0, turn), (1, 2, carry),
            (2, 1, back(carry)),
                                       (0, 3, arm_map(ARM)), (3, 0, back(arm_map(ARM))), (1, 3, arm_map(ARM[1:]))]:
            self.same_by_name(stage_map, {"arm": ARM, "stage": stage, "other": other}, expected)
        self.same_by_name(stage_map, {"arm": (), "stage": 0, "other": 0}, STAYS)

    def test_stages_one_behind_another(self):
        samples = Samples(230)
        for _ in range(60):
            arm = samples.arm()
            stages = range(len(arm) + 1)
            for one in stages:
                for other in stages:
                    chart = stage_map(arm, one, other)
                    self.assertTrue(is_map(chart))
                    self.assertEqual(back(chart), stage_map(arm, other, one))
                    for third in stages:
                        self.assertEqual(after(stage_map(arm, other, third), chart), stage_map(arm, one, third))

    def test_what_an_arm_lets_is_led_so(self):
        samples = Samples(231)
        found = 0
        for _ in range(400):
            arm, place = samples.arm(), samples.ratio(8)
            pins = pins_of(arm, place)
            if pins is not None:
                found += len(arm) > 1
                for one, pin in enumerate(pins):
                    for other, goal in enumerate(pins):
                        self.assertEqual(led_place(stage_map(arm, one, other), pin), goal)
        self.assertGreater(found, 20)


class Copies(ArgumentCase):
    def test_told_ones(self):
        for stage, other, expected in [(1, 3, (9, 1)), (3, 1, (1, 9)), (0, 0, (1, 1)), (1, 2, (1, 1)), (2, 3, (9, 1)),
            (0, 1, None), (0, 3, None),
                                       (3, 0, None), (2, 0, None)]:
            self.same_by_name(copy_size, {"arm": ARM, "stage": stage, "other": other}, expected)
            self.same_by_name(are_copies, {"arm": ARM, "stage": stage, "other": other}, expected is not None)
        twice = (("turnabout", (1, 1, 1), (2, 3), RING), ("mirror", (0, 1, 1, 0)), ("turnabout", (-1, -1, 1), (5, 7), RING))
        self.same_by_name(copy_size, {"arm": twice, "stage": 0, "other": 3}, (225, 196))
        great = (("grow", (0, 0, 1), (BIG, 1, 2), RING),)
        self.same_by_name(copy_size, {"arm": great, "stage": 1, "other": 0}, (2, (BIG * BIG + 1) // 2))

    def test_copies_keep_the_far_place_and_multiply_distances(self):
        samples = Samples(232)
        found = []
        for _ in range(150):
            arm = samples.arm()
            one, other = [samples.choice(range(len(arm) + 1)) for _ in range(2)]
            chart = stage_map(arm, one, other)
            keeps = led_place(chart, FAR) == FAR
            self.same_by_name(are_copies, {"arm": arm, "stage": one, "other": other}, keeps)
            size = copy_size(arm, one, other)
            self.assertEqual(size is not None, keeps)
            found.append(keeps)
            if keeps:
                first, second = [value_of(led_place(chart, place)) for place in ((0, 0, 1), (3, 4, 1))]
                self.assertEqual(Fraction(*size), (first - second).norm() / 25)
        self.assertGreater(min(found.count(True), found.count(False)), 20)


class Lines(ArgumentCase):
    def test_places(self):
        for chart, expected in [(SLIDE, FAR), (STAYS, FAR), (EVEN, (0, 0, 1)), (mirror_in((1, -2, 4, 1)), (1, -2, 1)),
                                (map_of(0, (1, 0), (0, 0), (2, 0), (0, 1)), (0, -1, 2)),
                                (map_of(1, (1, 0), (0, 0), (2, 0), (0, 1)), (0, 1, 2)),
                                (mirror_in((0, 1, 1, 5)), FAR)]:
            self.same_by_name(straight_place, {"chart": chart}, expected)
        samples = Samples(233)
        for _ in range(150):
            chart = samples.chart(samples.choice((2, 5, BIG)))
            self.assertEqual(led_place(chart, straight_place(chart=chart)), FAR)
            for circle in [samples.circle() for _ in range(3)] + LINES:
                self.assertEqual(is_straight(chart, circle), value_at(circle, straight_place(chart)) == 0)

    def test_told_ones(self):
        other = map_of(1, (1, 0), (5, 5), (1, 0), (-1, 0))
        for chart, beside, expected in [
            (SLIDE, EVEN, ("through", (0, 0, 1))), (EVEN, SLIDE, ("through", (0, 0, 1))),
            (EVEN, after(EVEN, SLIDE), ("line", (0, 0, 1, 0))),
            (SLIDE, SLIDE, ("all",)), (STAYS, mirror_in((0, 1, 1, 5)), ("all",)), (EVEN, EVEN, ("through", (0, 0, 1))),
            (EVEN, after(SLIDE, EVEN), ("through", (0, 0, 1))), (other, EVEN, ("line", (0, 0, 1, 0))),
            (other, other, ("through", (1, 0, 1))),
        ]:
            self.same_by_name(straight_twice, {"chart": chart, "other": beside}, expected)

    def test_which_lines_both_lead_to_lines(self):
        samples = Samples(234)
        for _ in range(80):
            chart, other = samples.chart(2), samples.chart(2)
            told = straight_twice(chart, other)
            lines = LINES + [samples.circle(3) for _ in range(30)] + ([told[1]] if told[0] == "line" else [])
            for line in [line for line in lines if line[0] == 0]:
                both = is_straight(chart, line) and is_straight(other, line)
                expected = told[0] == "all" or (value_at(line, told[1]) == 0 if told[0] == "through" else line == told[1])
                self.assertEqual(both, expected)


class WrongArguments(ArgumentCase):
    def test_arms(self):
        told = indexes_of_wrong(FIVE, WRONG_CELLS, 4)
        for function in (stage_map, are_copies, copy_size):
            self.check_indexes(InvalidArm, function, {"arm": (), "stage": 0, "other": 0}, "arm", told)

    def test_stages(self):
        wrong = [value for value in ANYTHING if value.__class__ is not int] + [-1, 4, BIG, -BIG, (0,), [0], "0", b"1"]
        for function in (stage_map, are_copies, copy_size):
            self.check_all_given(function, {"arm": ARM, "stage": 3, "other": 0},
                {"arm": (InvalidArm, []), "stage": (InvalidStage, wrong), "other": (InvalidStage, wrong)})
            self.assertEqual(self.raised(InvalidStage, function, (), 0, 1).given, 1)
            self.assertEqual(self.raised(InvalidStage, function, ARM[:2], 3, None).given, 3)

    def test_maps(self):
        chart = (InvalidMap, WRONG_MAPS)
        self.check_all_given(straight_place, {"chart": STAYS}, {"chart": chart})
        self.check_all_given(straight_twice, {"chart": STAYS, "other": EVEN}, {"chart": chart, "other": chart})


if __name__ == "__main__":
    unittest.main()
