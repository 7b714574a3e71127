"""Promise [42], and [2] for workshops: arms under names, wishes that always hold, changes, undoing and trials."""

import unittest

from drawarms.arms import arm_map, lets, pen_of
from drawarms.consoles import Console
from drawarms.errors import Broken, InUse, InvalidArm, InvalidIndex, InvalidName, InvalidWish, NothingToUndo, UnknownName
from drawarms.kinds import kind_of
from drawarms.lots import Lot
from drawarms.maps import led_place, led_round
from drawarms.reach import reaches_round
from drawarms.workshops import Workshop
from tests.support import ANYTHING, BIG, FAR, LINES, PLACES, RING, ROUNDS, STUBBORN, WRONG_CELLS, WRONG_NAMES, WRONG_PLACES, WRONG_ROUNDS
from tests.support import ArgumentCase, Contrary, Samples, indexes_of_wrong
from tests.test_pens import FIVE

ZERO, ONE, TWO = (0, 0, 1), (1, 0, 1), (2, 0, 1)
UNIT, FLAT = (1, 0, 0, -1), (0, 0, 1, 0)
DOUBLE = (("grow", ZERO, TWO, RING),)
TURN = (("turnabout", ZERO, (4, 1), RING),)
SHIFT = (("carry", ONE),)
KINDS = ("stays", "settles", "winds", "pulls", "swings", "spirals", "mirror", "flips")
WRONG_WISHES = ANYTHING + [
    ("pen",), ("pen", "a"), ("pen", "a", ONE), ("pen", "a", ONE, TWO, TWO), ["pen", "a", ONE, TWO], ("Pen", "a", ONE, TWO),
    (b"pen", "a", ONE, TWO), ("pens", "a", ONE, TWO), ("a", "pen", ONE, TWO), ("bars", "a"), ("bars", "a", ONE, ONE),
    ("bar", "a", ONE),
    ("leads", "a", UNIT), ("leads", "a", UNIT, UNIT, UNIT), ("leads", "a", ONE, ONE), ("draws", "a"), ("draws", "a", UNIT, UNIT),
    ("draws", "a", ONE),
    ("same", "a"), ("same", "a", "b", "a"), ("same", "a", ("b",)), ("copies",), ("copies", "a", "b"), ("copy", "a"),
    ("kind", "a"),
    ("kind", "a", "winds", "winds"), ("kind", "a", "wind"), ("kind", "a", "Winds"), ("kind", "a", ""), ("kind", "a", b"winds"),
    ("kind", "a", ("winds",)), ("kind", "a", None), ("kind", "a", STUBBORN), ("kind", "a", "all"), ("kind", "a", "round"),
    ("kind", "a", 4),
    ("kind", "winds", "a"), (STUBBORN, "a"), ("bars", "a", STUBBORN), ("same", "a", STUBBORN), (("bars", "a", ONE),),
    ("lets", "a", ONE),
]
for wrong in WRONG_NAMES:
    WRONG_WISHES += [("copies", wrong), ("pen", wrong, ONE, TWO), ("same", wrong, "a"), ("same", "a", wrong),
        ("kind", wrong, "winds")]
for wrong in WRONG_PLACES:
    WRONG_WISHES += [("bars", "a", wrong), ("pen", "a", wrong, ONE), ("pen", "a", ONE, wrong)]
for wrong in WRONG_ROUNDS:
    WRONG_WISHES += [("draws", "a", wrong), ("leads", "a", wrong, UNIT), ("leads", "a", UNIT, wrong)]


def holds(wish, arms):
    """Whether a wish holds, by the words of [42]."""
    word, arm = wish[0], arms[wish[1]]
    if word == "pen":
        return lets(arm, wish[2]) and pen_of(arm, wish[2]) == wish[3]
    if word == "bars":
        return not lets(arm, wish[2])
    if word == "leads":
        return led_round(arm_map(arm), wish[2]) == wish[3]
    if word == "draws":
        return reaches_round(arm, wish[2])
    if word == "same":
        return arm_map(arm) == arm_map(arms[wish[2]])
    if word == "copies":
        return led_place(arm_map(arm), FAR) == FAR
    return kind_of(arm_map(arm)) == wish[2]


def names_of(wish):
    return list(wish[1:]) if wish[0] == "same" else [wish[1]]


def state_of(shop):
    return {name: shop.named(name) for name in shop.names}, shop.wishes, len(shop)


def shop_with(**arms):
    shop = Workshop()
    for name, arm in arms.items():
        shop.put(name, arm)
    return shop


class ShopCase(ArgumentCase):
    def refused(self, error, shop, method, *values, **named):
        """A refused call changes nothing."""
        before = state_of(shop)
        caught = self.raised(error, method, *values, **named)
        self.assertEqual(state_of(shop), before)
        return caught

    def told(self, shop, names, wishes, many):
        self.assertEqual((shop.names, shop.wishes, len(shop)), (names, wishes, many))
        self.assertEqual((shop.names.__class__, shop.wishes.__class__), (tuple, tuple))


class Arms(ShopCase):
    def test_a_new_one(self):
        shop = Workshop()
        self.told(shop, (), (), 0)
        self.assertTrue(shop)
        self.assertIs(bool(shop), True)
        self.assertEqual(shop, shop)
        self.assertNotEqual(shop, Workshop())
        self.assertIs(shop == Workshop(), False)
        self.assertIs(shop != shop, False)
        for other in ANYTHING + [Lot(("all",)), Console(shop), shop.trial(), Contrary()]:
            self.assertIs(shop == other, False)
            self.assertIs(shop != other, True)
        for value in ANYTHING + WRONG_NAMES + ["a"]:
            self.assertIs(value in shop, False)
        for method in ("put", "drop", "wish", "lift", "named", "undo", "trial", "tried", "__len__", "__contains__", "__init__"):
            self.assertIn(method, vars(Workshop))
        for name in ("names", "wishes"):
            self.assertIsInstance(vars(Workshop)[name], property)

    def test_put_named_and_drop(self):
        shop = Workshop()
        self.assertIsNone(shop.put("b", DOUBLE))
        self.assertIsNone(shop.put(name="a", arm=()))
        self.assertIsNone(shop.put("abcdefghijkl", TURN))
        self.told(shop, ("a", "abcdefghijkl", "b"), (), 3)
        self.assertIs(shop.named("b"), DOUBLE)
        self.assertIs(shop.named(name="abcdefghijkl"), TURN)
        self.assertEqual(("b" in shop, "c" in shop, "B" in shop), (True, False, False))
        for value in ANYTHING + WRONG_NAMES:
            self.assertIs(value in shop, False)
        self.assertIsNone(shop.put("b", SHIFT))
        self.assertIsNone(shop.put("b", SHIFT))
        self.assertIs(shop.named("b"), SHIFT)
        self.assertEqual(len(shop), 5)
        self.assertIsNone(shop.drop("b"))
        self.assertIsNone(shop.drop(name="a"))
        self.told(shop, ("abcdefghijkl",), (), 7)
        for name in ("a", "z", "azzzzzzzzzzz"):
            shop.put(name, ())
        self.assertEqual(shop.names, ("a", "abcdefghijkl", "azzzzzzzzzzz", "z"))

    def test_what_is_told_does_not_change(self):
        shop = shop_with(a=DOUBLE)
        names, wishes = shop.names, shop.wishes
        shop.put("b", ())
        shop.wish(("copies", "b"))
        self.assertEqual((names, wishes), (("a",), ()))


TRUE_WISHES = [
    ("pen", "double", (2, 0, 1), (4, 0, 1)), ("pen", "still", ZERO, ZERO), ("bars", "double", (1, 0, 2)), ("bars", "double", FAR),
    ("bars", "still", FAR),
    ("bars", "turn", ZERO), ("leads", "double", UNIT, (1, 0, 0, -4)), ("leads", "turn", FLAT, FLAT),
    ("leads", "turn", (0, 1, 0, -1), (1, -4, 0, 0)),
    ("draws", "double", UNIT), ("draws", "double", (1, 0, 0, -3)), ("draws", "still", FLAT), ("draws", "shift", (1, 0, 0, -BIG)),
    ("same", "double", "double"), ("same", "double", "again"), ("copies", "double"), ("copies", "still"), ("copies", "shift"),
    ("kind", "double", "pulls"), ("kind", "still", "stays"), ("kind", "shift", "settles"), ("kind", "turn", "mirror"),
    ("kind", "flip", "flips"),
    ("kind", "wind", "winds"), ("kind", "swing", "swings"), ("kind", "spiral", "spirals"),
]
FALSE_WISHES = [
    ("pen", "double", TWO, TWO), ("pen", "double", (1, 0, 2), ONE), ("pen", "double", FAR, FAR), ("pen", "still", FAR, FAR),
    ("pen", "turn", ZERO, FAR),
    ("bars", "double", TWO), ("bars", "still", ZERO), ("leads", "double", UNIT, UNIT),
    ("leads", "turn", (0, 1, 0, -1), (0, 1, 0, -1)),
    ("draws", "double", FLAT), ("draws", "double", (1, 0, 0, -10)), ("draws", "turn", (1, -20, 0, 0)), ("same", "double", "turn"),
    ("same", "still", "shift"), ("copies", "turn"), ("copies", "flip"), ("kind", "double", "swings"), ("kind", "turn", "flips"),
    ("kind", "still", "winds"),
    ("kind", "shift", "mirror"),
]


def full_shop():
    return shop_with(double=DOUBLE, again=(("grow", ZERO, (4, 0, 1), RING), ("grow", ZERO, (1, 0, 2), RING)), still=(),
        shift=SHIFT, turn=TURN,
                     flip=(("turnabout", ZERO, (-1, 1), RING),), wind=(("grow", ZERO, (0, 1, 1), RING),),
                     swing=(("grow", ZERO, (-2, 0, 1), RING),),
                     spiral=(("grow", ONE, (1, 1, 1), RING),))


class Wishes(ShopCase):
    def test_those_that_hold(self):
        shop = full_shop()
        many = len(shop)
        for index, wish in enumerate(TRUE_WISHES):
            self.assertIsNone(shop.wish(wish) if index % 2 else shop.wish(wish=wish))
            self.assertIs(shop.wishes[-1], wish)
            self.assertEqual(len(shop), many + index + 1)
        self.assertEqual(shop.wishes, tuple(TRUE_WISHES))
        # A wish may be there twice.
        shop.wish(TRUE_WISHES[0])
        self.assertEqual(shop.wishes.count(TRUE_WISHES[0]), 2)
        for wish in FALSE_WISHES:
            self.assertEqual(self.refused(Broken, shop, shop.wish, wish).index, len(TRUE_WISHES) + 1)
            self.assertEqual(self.refused(Broken, shop, shop.wish, wish=wish).index, len(TRUE_WISHES) + 1)

    def test_samples(self):
        samples = Samples(250)
        found = []
        for _ in range(60):
            arms = {name: samples.arm() for name in ("a", "b")}
            arms["c"] = arms["a"][::-1] if samples.whole() > 0 else arms["a"]
            shop = shop_with(**arms)
            places, rounds = [FAR, samples.ratio(4), samples.ratio(90)], [samples.circle(3), samples.choice(ROUNDS),
                samples.choice(LINES)]
            wishes = [("pen", "a", place, led_place(arm_map(arms["a"]), place)) for place in places]
            wishes += [("bars", "b", place) for place in places] + [("draws", "a", circle) for circle in rounds]
            wishes += [("leads", "a", circle, led_round(arm_map(arms["a"]), circle)) for circle in rounds] + [("leads", "b",
                rounds[0], rounds[1])]
            wishes += [("same", "a", "b"), ("same", "c", "a"), ("copies", "a"),
                ("copies", "c")] + [("kind", "b", word) for word in KINDS]
            for wish in wishes:
                if holds(wish, arms):
                    shop.wish(wish)
                else:
                    self.assertEqual(self.refused(Broken, shop, shop.wish, wish).index, len(shop.wishes))
                found.append((wish[0], holds(wish, arms)))
        self.assertEqual(len(set(found)), 14)

    def test_unknown_names(self):
        shop = shop_with(a=DOUBLE, b=TURN)
        for wish, name in [(("copies", "c"), "c"), (("same", "c", "a"), "c"), (("same", "a", "d"), "d"),
            (("same", "c", "d"), "c"),
                           (("pen", "x", ONE, ONE), "x"), (("bars", "x", ONE), "x"), (("leads", "x", UNIT, UNIT), "x"),
                           (("draws", "x", UNIT), "x"),
                           (("kind", "abcdefghijkl", "winds"), "abcdefghijkl")]:
            self.assertEqual(self.refused(UnknownName, shop, shop.wish, wish).given, name)

    def test_put_breaks_the_first_wish(self):
        shop = shop_with(a=DOUBLE, b=DOUBLE)
        for wish in [("kind", "b", "pulls"), ("copies", "a"), ("same", "a", "b"), ("kind", "a", "pulls"), ("same", "a", "b")]:
            shop.wish(wish)
        self.assertEqual(self.refused(Broken, shop, shop.put, "a", TURN).index, 1)
        self.assertEqual(self.refused(Broken, shop, shop.put, "a", SHIFT).index, 2)
        self.assertEqual(self.refused(Broken, shop, shop.put, "b", TURN).index, 0)
        self.assertEqual(self.refused(Broken, shop, shop.put, name="b", arm=(("grow", ZERO, (3, 0, 1), RING),)).index, 2)
        again = (("grow", ZERO, (4, 0, 1), RING), ("grow", ZERO, (1, 0, 2), RING))
        shop.put("a", again)
        self.assertIs(shop.named("a"), again)
        shop.put("c", TURN)
        self.assertEqual(len(shop.wishes), 5)

    def test_drop_and_lift(self):
        shop = shop_with(a=DOUBLE, b=DOUBLE, c=DOUBLE)
        first, second, third = ("copies", "a"), ("same", "b", "a"), ("copies", "a")
        for wish in (first, second, third):
            shop.wish(wish)
        self.assertEqual(self.refused(InUse, shop, shop.drop, "a").index, 0)
        self.assertEqual(self.refused(InUse, shop, shop.drop, name="b").index, 1)
        shop.drop("c")
        self.assertIsNone(shop.lift(0))
        self.assertEqual(shop.wishes, (second, third))
        self.assertIs(shop.wishes[1], third)
        self.assertIsNone(shop.lift(index=0))
        shop.drop("b")
        self.told(shop, ("a",), (third,), 10)
        self.assertEqual(self.refused(InUse, shop, shop.drop, "a").index, 0)
        shop.lift(0)
        shop.drop("a")
        self.told(shop, (), (), 12)


class Undoing(ShopCase):
    def test_each_kind_of_change(self):
        shop = Workshop()
        states = [state_of(shop)]
        for method, values in [
            (shop.put, ("a", DOUBLE)), (shop.put, ("b", TURN)), (shop.put, ("a", DOUBLE)), (shop.wish, (("copies", "a"),)),
            (shop.put, ("a", SHIFT)),
            (shop.wish, (("copies", "a"),)), (shop.lift, (0,)), (shop.drop, ("b",)), (shop.put, ("b", ())),
            (shop.wish, (("kind", "b", "stays"),)),
            (shop.lift, (1,)), (shop.lift, (0,)), (shop.drop, ("a",)),
        ]:
            method(*values)
            states.append(state_of(shop))
        self.assertEqual(len(shop), len(states) - 1)
        for state in reversed(states[:-1]):
            self.assertIsNone(shop.undo())
            self.assertEqual(state_of(shop), state)
        for _ in range(3):
            self.refused(NothingToUndo, shop, shop.undo)
        shop.put("z", ())
        self.told(shop, ("z",), (), 1)

    def test_any_calls(self):
        samples = Samples(251)
        for _ in range(25):
            shop, states = Workshop(), []
            for _ in range(40):
                before = state_of(shop)
                call = self.random_call(samples, shop)
                try:
                    call[0](*call[1:])
                except (Broken, InUse, UnknownName, InvalidIndex, InvalidName, InvalidWish, NothingToUndo):
                    self.assertEqual(state_of(shop), before)
                else:
                    if call[0] == shop.undo:
                        self.assertEqual(state_of(shop), states.pop())
                    else:
                        states.append(before)
                        self.assertEqual(len(shop), before[2] + 1)
                arms, wishes, _ = state_of(shop)
                self.assertEqual([wish for wish in wishes if not holds(wish, arms)], [])
            while len(shop):
                shop.undo()
                self.assertEqual(state_of(shop), states.pop())
            self.assertEqual(states, [])
            self.told(shop, (), (), 0)

    def random_call(self, samples, shop):
        name, other = samples.choice("abcd"), samples.choice("abcd")
        arm = samples.choice([(), DOUBLE, TURN, SHIFT, samples.arm()])
        wish = samples.choice([("copies", name), ("same", name, other), ("kind", name, samples.choice(KINDS)),
            ("bars", name, samples.place(3)),
                               ("draws", name, UNIT), ("pen", name, TWO, (4, 0, 1)), ("leads", name, FLAT, FLAT)])
        return samples.choice([(shop.put, name, arm), (shop.put, name, arm), (shop.wish, wish), (shop.wish, wish),
            (shop.drop, name),
                               (shop.lift, samples.choice((0, 1, 2, -1))), (shop.undo,), (shop.put, name.upper(), arm)])


class Problem(Exception):
    pass


class Trials(ShopCase):
    def test_a_call_alone_changes_nothing(self):
        shop = shop_with(a=DOUBLE)
        before = state_of(shop)
        made = [shop.trial() for _ in range(3)]
        self.assertEqual(state_of(shop), before)
        shop.put("b", TURN)
        del made
        self.assertEqual(shop.names, ("a", "b"))

    def test_what_stays(self):
        shop = shop_with(a=DOUBLE)
        with shop.trial() as held:
            self.assertIs(held, shop)
            held.put("b", TURN)
            held.wish(("copies", "a"))
        self.told(shop, ("a", "b"), (("copies", "a"),), 3)
        shop.undo()
        self.told(shop, ("a", "b"), (), 2)

    def test_what_is_taken_back(self):
        for problem in (Problem(), ValueError("x"), Broken(3), KeyboardInterrupt(), SystemExit(), StopIteration(),
            GeneratorExit(), KeyError(STUBBORN)):
            shop = shop_with(a=DOUBLE, b=TURN)
            shop.wish(("copies", "a"))
            before = state_of(shop)
            with self.assertRaises(problem.__class__) as caught:
                with shop.trial():
                    shop.drop("b")
                    shop.lift(0)
                    shop.put("a", TURN)
                    shop.put("c", ())
                    raise problem
            self.assertIs(caught.exception, problem)
            self.assertEqual(state_of(shop), before)
            self.assertIs(shop.named("a"), DOUBLE)

    def test_refused_calls_within(self):
        shop = shop_with(a=DOUBLE)
        with self.assertRaises(UnknownName) as caught:
            with shop.trial():
                shop.put("b", TURN)
                shop.drop("c")
        self.assertEqual(caught.exception.given, "c")
        self.told(shop, ("a",), (), 1)
        # An error that is caught within ends no trial.
        with shop.trial():
            shop.put("b", TURN)
            self.raised(UnknownName, shop.drop, "c")
        self.told(shop, ("a", "b"), (), 2)

    def test_undoing_within(self):
        shop = shop_with(a=DOUBLE, b=TURN, c=SHIFT)
        before = state_of(shop)
        with self.assertRaises(Problem):
            with shop.trial():
                shop.put("d", ())
                for _ in range(3):
                    shop.undo()
                self.told(shop, ("a",), (), 1)
                shop.put("z", ())
                raise Problem
        self.assertEqual(state_of(shop), before)
        with shop.trial():
            shop.undo()
            shop.undo()
        self.told(shop, ("a",), (), 1)
        with self.assertRaises(NothingToUndo):
            with shop.trial():
                shop.undo()
                shop.undo()
        self.told(shop, ("a",), (), 1)

    def test_trials_within_trials(self):
        shop = shop_with(a=DOUBLE)
        with shop.trial():
            shop.put("b", TURN)
            with self.assertRaises(Problem):
                with shop.trial() as held:
                    held.put("c", TURN)
                    with held.trial():
                        held.put("d", ())
                    self.assertEqual(shop.names, ("a", "b", "c", "d"))
                    raise Problem
            self.told(shop, ("a", "b"), (), 2)
            shop.put("e", ())
        self.told(shop, ("a", "b", "e"), (), 3)
        with self.assertRaises(Problem):
            with shop.trial():
                shop.undo()
                with shop.trial():
                    shop.undo()
                    shop.put("x", ())
                raise Problem
        self.told(shop, ("a", "b", "e"), (), 3)

    def test_it_begins_with_the_statement(self):
        shop = Workshop()
        made = shop.trial()
        shop.put("a", DOUBLE)
        with self.assertRaises(Problem):
            with made:
                shop.put("b", TURN)
                raise Problem
        self.told(shop, ("a",), (), 1)

    def test_tried(self):
        shop = shop_with(a=DOUBLE)
        self.assertEqual(shop.tried(lambda held: (held is shop, held.put("b", TURN), len(held))), (True, None, 2))
        answer = object()
        self.assertIs(shop.tried(action=lambda held: answer), answer)
        self.told(shop, ("a", "b"), (), 2)
        problem = Problem()

        def action(held):
            held.undo()
            held.put("c", ())
            held.tried(lambda within: within.put("d", ()))
            raise problem

        with self.assertRaises(Problem) as caught:
            shop.tried(action)
        self.assertIs(caught.exception, problem)
        self.told(shop, ("a", "b"), (), 2)
        self.assertEqual(shop.tried(len), 2)


class WrongArguments(ShopCase):
    def test_names(self):
        shop = shop_with(a=DOUBLE)
        for wrong in WRONG_NAMES:
            for caught in (self.refused(InvalidName, shop, shop.put, wrong, ()),
                self.refused(InvalidName, shop, shop.put, name=wrong, arm=None)):
                self.assertIs(caught.given, wrong)
        for wrong in WRONG_NAMES + ANYTHING + ["b", "abcdefghijkl"]:
            for method in (shop.drop, shop.named):
                for caught in (self.refused(UnknownName, shop, method, wrong),
                    self.refused(UnknownName, shop, method, name=wrong)):
                    self.assertIs(caught.given, wrong)

    def test_arms(self):
        shop = shop_with(a=DOUBLE)
        shop.wish(("copies", "a"))
        for wrong, index in indexes_of_wrong(FIVE, WRONG_CELLS, 4):
            for name in ("a", "b"):
                for caught in (self.refused(InvalidArm, shop, shop.put, name, wrong),
                    self.refused(InvalidArm, shop, shop.put, name=name, arm=wrong)):
                    self.assertEqual((caught.index, caught.index.__class__), (index, index.__class__))

    def test_wishes(self):
        shop = shop_with(a=DOUBLE, b=TURN)
        for wrong in WRONG_WISHES:
            self.assertIs(self.refused(InvalidWish, shop, shop.wish, wrong).given, wrong)
        self.assertIs(self.refused(InvalidWish, shop, shop.wish, wish=WRONG_WISHES[0]).given, WRONG_WISHES[0])
        wrong = ("kind", "nowhere", "no word")
        self.assertIs(self.refused(InvalidWish, shop, shop.wish, wrong).given, wrong)

    def test_indexes(self):
        shop = shop_with(a=DOUBLE)
        for many in range(3):
            for wrong in [value for value in ANYTHING if value.__class__ is not int] + [-1, many, many + 1, BIG, -BIG, (0,), "0"]:
                for caught in (self.refused(InvalidIndex, shop, shop.lift, wrong),
                    self.refused(InvalidIndex, shop, shop.lift, index=wrong)):
                    self.assertIs(caught.given, wrong)
            shop.wish(("copies", "a"))

    def test_great_numbers(self):
        great = (("grow", (BIG, 1, 3), (BIG, -1, 7), ((1, BIG), (BIG, 1))),)
        shop = shop_with(a=great)
        for place in PLACES[1:]:
            if lets(great, place):
                shop.wish(("pen", "a", place, led_place(arm_map(great), place)))
            else:
                shop.wish(("bars", "a", place))
        self.assertEqual(len(shop.wishes), len(PLACES) - 1)


if __name__ == "__main__":
    unittest.main()
