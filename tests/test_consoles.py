"""Promise [42] for consoles: the lines that they take and the texts that they answer."""

import sys
import unittest

from drawarms.arms import arm_map, pen_of
from drawarms.consoles import Console
from drawarms.errors import Broken, InUse, InvalidPhrase, InvalidPlace, NotAWorkshop, NothingToUndo, UnknownName
from drawarms.kinds import kind_of
from drawarms.lots import Lot
from drawarms.stock import product_of_powers
from drawarms.workshops import Workshop
from tests.support import ANYTHING, BIG, RING, WRONG_NAMES, ArgumentCase, Contrary, Samples
from tests.test_workshops import state_of

PHRASES = [
    ("nothing", ()), ("carry 1 0 1", (("carry", (1, 0, 1)),)), ("carry -3 0 7", (("carry", (-3, 0, 7)),)),
    ("grow 0 0 1 2 0 1 1 1 9 1", (("grow", (0, 0, 1), (2, 0, 1), RING),)),
    ("turnabout 1 -2 3 -4 5 1 2 3 4", (("turnabout", (1, -2, 3), (-4, 5), ((1, 2), (3, 4))),)),
    ("mirror 0 1 -2 0", (("mirror", (0, 1, -2, 0)),)),
    ("turnabout 0 0 1 4 1 1 1 9 1; carry 1 0 1", (("turnabout", (0, 0, 1), (4, 1), RING), ("carry", (1, 0, 1)))),
    ("mirror 0 0 1 0; mirror 0 1 0 0; mirror 0 0 1 0; mirror 0 1 0 -1",
    tuple(("mirror", line) for line in ((0, 0, 1, 0), (0, 1, 0, 0), (0, 0, 1, 0), (0, 1, 0, -1)))),
    (f"carry {BIG} -{BIG} 2", (("carry", (BIG, -BIG, 2)),)),
]
# What is no text of an arm, though nearly one.
NO_ARMS = [
    "", " ", "Nothing", "nothing ", " nothing", "nothing; nothing", "nothing;", "()", "none", "carry", "carry ", "carry 1 0",
    "carry 1 0 1 1", "carry 1 0 1 ",
    " carry 1 0 1", "carry  1 0 1", "carry 1  0 1", "carry 1 0 1;", "carry 1 0 1; ", "carry 1 0 1;carry 1 0 1",
    "carry 1 0 1 ; carry 1 0 1",
    "carry 1 0 1;  carry 1 0 1", "; carry 1 0 1", "carry 1 0 1, carry 1 0 1", "Carry 1 0 1", "CARRY 1 0 1", "carry +1 0 1",
    "carry 01 0 1", "carry 1 -0 1",
    "carry 1 00 1", "carry --1 0 1", "carry - 0 1", "carry 1.0 0 1", "carry 1_0 0 1", "carry 1e1 0 1", "carry 0x1 0 1",
    "carry one 0 1", "carry (1, 0, 1)",
    "carry 1,0,1", "carry\t1 0 1", "carry 1 0 1\n", "carry -01 0 1", "carry 1- 0 1", "carry 0 0 1", "carry 1 0 0", "carry 2 0 2",
    "carry 1 0 -1", "shift 1 0 1",
    "1 0 1", "grow 0 0 1 2 0 1", "grow 0 0 1 1 0 1 1 1 9 1", "grow 0 0 1 0 0 1 1 1 9 1", "grow 1 0 0 2 0 1 1 1 9 1",
    "grow 0 0 1 2 0 1 9 1 1 1",
    "grow 0 0 1 2 0 1 1 1 9 1 1", "grow 0 0 1 2 0 1 1 1 9", "turnabout 0 0 1 4 1", "turnabout 0 0 1 0 1 1 1 9 1",
    "turnabout 0 0 1 4 2 1 1 9 1",
    "turnabout 0 0 1 4 -1 1 1 9 1", "mirror 1 0 0 -1", "mirror 0 -1 0 0", "mirror 0 2 0 0", "mirror 0 1 0", "mirror 0 1 0 0 0",
    "; ".join(["carry 1 0 1"] * 5),
    "carry 1  1", "carry 1 - 1", "carry  1 1", "carry 1 0 1; nothing", "carry 1 0 1; carry 0 0 1", "done", "barred",
]
NO_PLACES = ["", " ", "-", " 0 1", "1  1", "1 - 1", "0 0 -", "1", "1 2", "1 0 1 ", " 1 0 1", "1  0 1", "1 0 1 1", "+1 0 1",
    "01 0 1", "-0 0 1", "1 0 1.0", "a 0 1",
    "1,0,1", "(1, 0, 1)", "1 0 --1", "far", "1_0 0 1", "1 0 1;", "1 0\t1", "1 0 1\n"]
WRONG_LINES = [value for value in ANYTHING if not isinstance(value, str)] + [
    "", " ", "hello", "Names", "NAMES", "names ", " names", "names a", "undo ", " undo", "Undo", "undo 1", "redo", "done", "drop",
    "drop ", "arm", "arm ",
    "map", "kind", "pen", "put", "put ", "pen ", "Drop a", "DROP a", " drop a", "drop  a", "drop a ", "drop a b", "drop a:",
    "drop: a", "Arm a", "arm a b",
    "map A", "kind a ", "Kind a", "put a", "put a:", "put a: ", "put a:nothing", "put a nothing", "put a : nothing",
    "put  a: nothing", "put a:  nothing",
    "Put a: nothing", "PUT a: nothing", " put a: nothing", "put: nothing", "put : nothing", "pen a", "pen a:", "pen a: ",
    "pen a:1 0 1", "pen a 1 0 1",
    "Pen a: 1 0 1", "pen  a: 1 0 1", "pen : 1 0 1", "pen a : 1 0 1", "wish a", "lift 0", "named a", "put a: b: nothing",
    "pen a: b: 1 0 1", "names; undo", "undo\n",
    b"names", b"undo", ["names"], ("undo",), "put a, b: nothing", "arm a; arm a", "trial", "kind a: winds",
] + [f"put a: {text}" for text in NO_ARMS] + [f"pen a: {text}" for text in NO_PLACES]
for name in WRONG_NAMES:
    if isinstance(name, str):
        WRONG_LINES += [f"{word} {name}" for word in ("drop", "arm", "map", "kind")] + [f"put {name}: nothing",
            f"pen {name}: 1 0 1"]


class Phrases(ArgumentCase):
    def setUp(self):
        self.shop = Workshop()
        self.console = Console(self.shop)

    def says(self, line, answer):
        told = self.console.say(line)
        self.assertEqual((told, told.__class__), (answer, str))

    def test_a_session(self):
        for line, answer in [
            ("names", "none"), ("put b: turnabout 0 0 1 4 1 1 1 9 1; carry 1 0 1", "done"), ("put a: nothing", "done"),
            ("names", "a b"),
            ("arm b", "turnabout 0 0 1 4 1 1 1 9 1; carry 1 0 1"), ("arm a", "nothing"), ("map b", "1 1 0 4 0 1 0 0 0"),
            ("map a", "0 1 0 0 0 0 0 1 0"),
            ("kind b", "pulls"), ("kind a", "stays"), ("pen b: 2 0 1", "3 0 1"), ("pen b: 4 0 1", "barred"),
            ("pen b: 1 0 0", "barred"), ("pen b: 0 -3 1", "3 -4 3"),
            ("pen a: -5 7 3", "-5 7 3"), ("put a: grow 0 0 1 0 -1 1 1 1 9 1", "done"), ("arm a", "grow 0 0 1 0 -1 1 1 1 9 1"),
            ("map a", "0 1 0 0 0 0 0 0 1"),
            ("pen a: 1 2 1", "2 -1 1"), ("undo", "done"), ("arm a", "nothing"), ("drop a", "done"), ("names", "b"),
            ("undo", "done"), ("names", "a b"), ("undo", "done"),
            ("undo", "done"), ("names", "none"), ("put none: nothing", "done"), ("names", "none"),
            ("put abcdefghijkl: carry 1 0 1", "done"),
            ("names", "abcdefghijkl none"),
        ]:
            self.says(line, answer)
        self.assertEqual(len(self.shop), 2)
        self.assertEqual(self.console.say(line="names"), "abcdefghijkl none")

    def test_texts_of_arms(self):
        for text, arm in PHRASES:
            self.says(f"put a: {text}", "done")
            self.assertEqual(self.shop.named("a"), arm)
            self.says("arm a", text)

    def test_what_is_put_in_the_shop_is_there(self):
        self.shop.put("x", PHRASES[6][1])
        self.says("names", "x")
        self.says("arm x", PHRASES[6][0])
        other = Console(shop=self.shop)
        self.assertEqual((other.say("drop x"), self.shop.names), ("done", ()))

    def test_samples(self):
        samples = Samples(260)
        for _ in range(80):
            arm = samples.arm()
            self.shop.put("a", arm)
            text = self.console.say("arm a")
            self.says(f"put b: {text}", "done")
            self.assertEqual(self.shop.named("b"), arm)
            chart = arm_map(arm)
            self.says("map a", " ".join(str(number) for number in (chart[0],) + sum(chart[1:], ())))
            self.says("kind b", kind_of(chart))
            place = samples.place(6)
            pen = pen_of(arm, place)
            self.says("pen b: {} {} {}".format(*place), "barred" if pen is None else "{} {} {}".format(*pen))

    def test_great_numbers(self):
        # Greater than what Python turns into texts at once.
        great = product_of_powers(((BIG, 1, 3), (7, BIG, 5)), (60, -60))
        great = product_of_powers((great,), (3,))
        self.assertGreater(great[2], 10 ** 5000)
        arm = (("carry", great), ("grow", (0, 0, 1), (-great[0], great[1], great[2]), RING))
        self.shop.put("a", arm)
        text = self.console.say("arm a")
        self.assertTrue(set(text) <= set("carygow; -0123456789"))
        limit = sys.get_int_max_str_digits()
        sys.set_int_max_str_digits(0)
        try:
            self.assertEqual(text,
                f"carry {great[0]} {great[1]} {great[2]}; grow 0 0 1 {-great[0]} {great[1]} {great[2]} 1 1 9 1")
        finally:
            sys.set_int_max_str_digits(limit)
        self.says(f"put b: {text}", "done")
        self.assertEqual(self.shop.named("b"), arm)
        self.says("arm b", text)
        for number in (10 ** 59, 10 ** 60 - 1, 10 ** 60, 10 ** 60 + 1, 10 ** 120, 10 ** 120 - 1, 3 * 10 ** 61, 10 ** 180 + 5):
            for one in (number, -number):
                self.says(f"put c: carry {one} 0 1", "done")
                self.assertEqual(self.shop.named("c"), (("carry", (one, 0, 1)),))
                self.says("arm c", f"carry {one} 0 1")


class Errors(ArgumentCase):
    def setUp(self):
        self.shop = Workshop()
        self.console = Console(self.shop)
        self.console.say("put a: grow 0 0 1 2 0 1 1 1 9 1")
        self.shop.wish(("copies", "a"))

    def refused(self, error, line):
        before = state_of(self.shop)
        caught = self.raised(error, self.console.say, line)
        self.assertEqual(state_of(self.shop), before)
        return caught

    def test_a_workshop_is_needed(self):
        for wrong in ANYTHING + [Workshop, Lot(("all",)), self.console, self.shop.trial()]:
            for caught in (self.raised(NotAWorkshop, Console, wrong), self.raised(NotAWorkshop, Console, shop=wrong)):
                self.assertIs(caught.given, wrong)

    def test_lines(self):
        for wrong in WRONG_LINES:
            self.assertIs(self.refused(InvalidPhrase, wrong).given, wrong)
            self.assertIs(self.raised(InvalidPhrase, self.console.say, line=wrong).given, wrong)

    def test_errors_of_what_is_called(self):
        self.assertEqual(self.refused(Broken, "put a: turnabout 0 0 1 4 1 1 1 9 1").index, 0)
        self.assertEqual(self.refused(InUse, "drop a").index, 0)
        for line in ("drop b", "arm b", "map b", "kind b", "pen b: 1 0 1", "pen b: 2 0 2"):
            self.assertEqual(self.refused(UnknownName, line).given, "b")
        self.assertEqual(self.refused(InvalidPlace, "pen a: 2 0 2").given, (2, 0, 2))
        self.assertEqual(self.refused(InvalidPlace, "pen a: 0 0 0").given, (0, 0, 0))
        self.assertEqual(self.refused(InvalidPlace, "pen a: 1 1 -1").given, (1, 1, -1))
        for _ in range(2):
            self.console.say("undo")
        self.refused(NothingToUndo, "undo")

    def test_a_console_is_equal_to_itself_alone(self):
        for other in ANYTHING + [Console(self.shop), self.shop, Contrary()]:
            self.assertIs(self.console == other, False)
            self.assertIs(self.console != other, True)
        self.assertTrue(self.console == self.console)
        self.assertIs(bool(self.console), True)
        self.assertTrue({"__init__", "say"} <= set(vars(Console)))


if __name__ == "__main__":
    unittest.main()
