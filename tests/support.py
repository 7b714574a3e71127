"""What the tests share: wrong values of each kind, ordinary samples, and checks of arguments."""

import copy
import random
import unittest
from fractions import Fraction
from math import gcd

from drawarms.maps import map_of

FAR = (1, 0, 0)
BIG = 10 ** 39 + 7
STAYS = (0, (1, 0), (0, 0), (0, 0), (1, 0))


class Stubborn:
    """A value that can be asked nothing."""

    __hash__ = None

    def __eq__(self, other):
        raise RuntimeError("compared")

    def __bool__(self):
        raise RuntimeError("asked for its truth")

    def __len__(self):
        raise RuntimeError("measured")

    def __iter__(self):
        raise RuntimeError("iterated over")

    def __getitem__(self, at):
        raise RuntimeError("indexed")


class Contrary:
    """A value that says it is equal to everything."""

    __hash__ = None

    def __eq__(self, other):
        return True

    def __ne__(self, other):
        return False


def nested(depth, value):
    for _ in range(depth):
        value = (value,)
    return value


STUBBORN = Stubborn()
ANYTHING = [
    None, True, False, 0, 1, -3, BIG, "", "carry", "(1, 0)", b"", b"\x00\x01\x02", (), [], {}, set(), {1, 2},
    {"side": 1}, object(), STUBBORN, len, int, ValueError("x"), range(3), nested(14, 1), nested(13, ()), (None,),
    (STUBBORN, STUBBORN), (STUBBORN, STUBBORN, STUBBORN), (STUBBORN,) * 4, (STUBBORN,) * 5, ((),), ([],),
]
WRONG_COMPLEXES = ANYTHING + [
    (1,), (1, 2, 3), [1, 2], (1, None), (None, 1), (True, 0), (0, False), (1, True), ("1", 0), (0, "1"), ((1, 0), 0),
    (1, (0,)), ((1, 0), (0, 1)), "ab", b"ab", {1: 0, 0: 1}, (BIG,), (1, []),
]
WRONG_PLACES = ANYTHING + [
    (1, 0), (1, 0, 0, 0), (0, 0, 1, 1), [1, 0, 1], [1, 0, 0], (2, 0, 2), (0, 0, 0), (0, 0, 2), (3, 6, 9), (1, 0, -1),
    (0, 0, -1), (-1, 0, 0), (2, 0, 0), (0, 1, 0), (0, -1, 0), (1, 1, 0), (True, 0, 1), (0, False, 1), (1, 0, True),
    (True, 0, 0), (1, 0, False), (1, 0, None), ("1", 0, 1), (1, "0", 1), ((1, 0), 1), ((1, 0), 0, 1), (1, (0,), 1),
    ((1, 0, 1),), (2 * BIG, 0, 2), (BIG, BIG, BIG), (BIG, 1, -1), "abc", b"abc",
]
WRONG_RATIOS = WRONG_PLACES + [FAR]
WRONG_ROWS = ANYTHING + [
    (1, 0, 0), (1, 0, 0, -1, 0), [1, 0, 0, -1], (0, 0, 0, 0), (0, 0, 0, 1), (0, 0, 0, -1), (1, 0, 0, 0), (1, 0, 0, 1),
    (-1, 0, 0, 0), (-1, 0, 0, -1), (1, 2, 0, 1), (2, 0, 0, -2), (0, 2, 0, 0), (0, 2, 4, 6), (-2, 0, 0, 2),
    (True, 0, 0, -1), (1, False, 0, -1), (1, 0, False, -1), (0, 1, 0, False), (0, True, 0, 0), (1, 0, 0, None),
    ("1", 0, 0, -1), (1, (0,), 0, -1), ((1, 0, 0, -1),), ((1, 0), (0, -1)), (BIG, 0, 0, -BIG), (1, 2 * BIG, 0, BIG * BIG),
    "abcd", b"abcd", (1, 0, 1),
]
WRONG_ROUNDS = WRONG_ROWS + [(-1, 0, 0, 1), (0, -1, 0, 0), (0, 0, -1, 5), (-3, 1, 1, 1), (0, -1, 1, 0), (-1, 5, 0, 0)]
WRONG_MIRROR_ROWS = ANYTHING + [
    (1, 0, 0), (1, 0, 0, 1, 0), [1, 0, 0, 1], (0, 0, 0, 0), (0, 0, 0, 1), (1, 0, 0, 0), (-1, 0, 0, 1), (-1, 0, 0, -1),
    (2, 0, 0, 2),
    (1, 2, 0, 1), (1, 2, 2, 2), (0, -1, 0, 0), (0, 0, -1, 3), (0, 2, 0, 4), (True, 0, 0, 1), (1, False, 0, 1), (1, 0, 0, True),
    (1, 0, None, 1), ("1", 0, 0, 1), ((1, 0, 0, 1),), (1, (0,), 0, 1), (BIG, 0, 0, BIG), (1, 2 * BIG, 0, BIG * BIG), "abcd",
    (4, 4, 0, 1), (0, BIG, 0, 0), (0, 0, 0, -1),
]
CIRCLES = [(1, 0, 0, -1), (1, 0, 0, -3), (2, -3, 0, -2), (3, 1, 5, -2)]
WRONG_LINES = WRONG_ROUNDS + CIRCLES
WRONG_MAPS = ANYTHING + [
    STAYS[1:], STAYS + ((1, 0),), list(STAYS), (0, [1, 0], (0, 0), (0, 0), (1, 0)), (0, (1, 0), (0, 0), (0, 0)),
    (False,) + STAYS[1:], (True,) + STAYS[1:], (2,) + STAYS[1:], (-1,) + STAYS[1:], (None,) + STAYS[1:],
    ("0",) + STAYS[1:], ((0,),) + STAYS[1:], (STUBBORN,) + STAYS[1:],
    (0, (1, 0), (0, 0), (0, 0), (0, 0)), (0, (1, 0), (1, 0), (1, 0), (1, 0)), (1, (0, 0), (0, 0), (0, 0), (0, 0)),
    (0, (1, 1), (1, 0), (2, 0), (1, -1)), (0, (0, 0), (0, 0), (1, 0), (1, 0)),
    (0, (2, 0), (0, 0), (0, 0), (2, 0)), (0, (1, 1), (0, 0), (0, 0), (1, 1)), (0, (2, 1), (5, 0), (0, 0), (2, 1)),
    (1, (2, 0), (1, 1), (0, 0), (1, 1)), (0, (BIG, 0), (0, 0), (0, 0), (BIG, 0)),
    (0, (-1, 0), (0, 0), (0, 0), (1, 0)), (0, (0, 1), (0, 0), (0, 0), (1, 0)), (1, (1, -1), (0, 0), (0, 0), (1, 0)),
    (0, (0, 0), (-1, 0), (1, 0), (0, 0)), (0, (0, 0), (0, 1), (1, 0), (0, 0)), (1, (0, 0), (0, -1), (1, 0), (0, 0)),
    (0, (1, 0), (0, 0), (0, 0), (True, 0)), (0, (1, False), (0, 0), (0, 0), (1, 0)),
    (0, (1, 0), (0,), (0, 0), (1, 0)), (0, (1, 0), (0, 0, 0), (0, 0), (1, 0)), (0, (1, 0), None, (0, 0), (1, 0)),
    (0, 1, 0, 0, 1), (0, 1, 0, 0, 0, 0, 0, 1, 0), (0, (1, 0, 1), (0, 0), (0, 0), (1, 0)),
]
WRONG_FLAGS = ANYTHING[:3] + [2, -1, BIG, (), (0,), (1,), [], "0", "1", b"0", STUBBORN, {}, object(), int]
WRONG_NUMBERS = ANYTHING[:3] + [61, -61, 100, BIG, -BIG, (), (1,), [], [3], "3", b"3", STUBBORN, {}, object(), len]
WRONG_POWERS = ANYTHING + [
    (1,), (1, 2, 3), [1, 2], (2, 4), (0, 1), (1, 0), (1, -2), (-1, -2), (0, 0), (True, 2), (1, True), ("1", 2),
    (1, None), ((1, 2),), ((1,), 2), (BIG, BIG), (3 * BIG, 3),
]
WRONG_FRACTIONS = WRONG_POWERS + [(-1, 2), (-1, 1), (-BIG, 1)]
WRONG_RINGS = ANYTHING + [
    ((1, 1),), ((1, 1), (2, 1), (3, 1)), [(1, 1), (2, 1)], ([1, 1], (2, 1)), ((1, 1), [2, 1]), ((1, 1), (1, 1)),
    ((2, 1), (1, 1)), ((1, 2), (1, 3)), ((0, 1), (1, 1)), ((-1, 1), (1, 1)), ((1, 1), (0, 1)), ((1, -1), (1, 1)),
    ((2, 2), (3, 1)), ((1, 1), (4, 2)), ((1, 1), (2, 0)), ((True, 1), (2, 1)), ((1, 1), (2, True)), (1, 2), (1, 1, 4, 1),
    ((1, 1), None), (None, (1, 1)), (((1, 1), (2, 1)),), ((1, 1, 1), (2, 1)), ((BIG, 1), (BIG, 1)), "ab", b"ab",
]
RING = ((1, 1), (9, 1))
WRONG_CELLS = ANYTHING + [
    ("carry",), ("carry", (1, 0, 1), RING), ["carry", (1, 0, 1)], ("carry", FAR), ("carry", (0, 0, 1)), ("Carry", (1, 0, 1)),
    (b"carry", (1, 0, 1)), ("carry ", (1, 0, 1)), (("carry", (1, 0, 1)),), ("carry", [1, 0, 1]), ("carry", (2, 0, 2)),
    ("carry", (1, 0, True)), ("carry", 1, 0, 1), ("shift", (1, 0, 1)), ("line", (0, 1, 0, 0)), ((1, 0, 1), "carry"),
    ("grow", (0, 0, 1), (2, 0, 1)), ("grow", (0, 0, 1), (2, 0, 1), RING, RING), ("grow", FAR, (2, 0, 1), RING),
    ("grow", (0, 0, 1), FAR, RING), ("grow", (0, 0, 1), (0, 0, 1), RING), ("grow", (0, 0, 1), (1, 0, 1), RING),
    ("grow", (0, 0, 1), (2, 0, 1), ((1, 1), (1, 1))), ("grow", (0, 0, 1), (2, 1), RING), ("grow", (0, 0, 1), (2, 0, 1), None),
    ("turnabout", (0, 0, 1), (4, 1)), ("turnabout", FAR, (4, 1), RING), ("turnabout", (0, 0, 1), (0, 1), RING),
    ("turnabout", (0, 0, 1), (4, 2), RING), ("turnabout", (0, 0, 1), (4, -1), RING), ("turnabout", (0, 0, 1), (4, 0), RING),
    ("turnabout", (0, 0, 1), (4, 0, 1), RING), ("turnabout", (0, 0, 1), [4, 1], RING), ("turnabout", (0, 0, 1), 4, RING),
    ("turnabout", (0, 0, 1), (True, 1), RING), ("turnabout", (0, 0, 1), (4, True), RING),
    ("turnabout", (0, 0, 1), (4, 1), ((2, 1), (1, 1))), ("turnabout", (0, 0, 1), (4, 1), list(RING)),
    ("mirror",), ("mirror", (0, 1, 0, 0), RING), ("mirror", (1, 0, 0, -1)), ("mirror", (0, -1, 0, 0)),
    ("mirror", (0, 2, 0, 0)), ("mirror", (0, 0, 0, 1)), ("mirror", [0, 1, 0, 0]), ("mirror", 0, 1, 0, 0),
    (STUBBORN, (1, 0, 1)), ("carry", STUBBORN), ("grow", STUBBORN, STUBBORN, STUBBORN), (None, None), (0, (1, 0, 1)),
]
WRONG_WORDS = ANYTHING[:7] + [
    "", "carr", "Carry", "carry ", " carry", "CARRY", b"carry", "shift", "pole", "side", "carrycarry", ("carry",), ["carry"],
    {"carry": 1},
    {"carry"}, STUBBORN, len, object(), ("carry", (1, 0, 1)), (STUBBORN,), nested(13, "grow"),
]
WRONG_NAMES = ANYTHING[:7] + [
    "", "abcdefghijklm", "a" * 40, "A", "aB", "a b", " a", "a ", "a1", "1", "_", "a_b", "a-b", "a.b", "a:", ":", "a;", "~", b"a",
    b"abc",
    ("a",), ["a"], {"a": 1}, {"a"}, (), [], STUBBORN, object(), len, (STUBBORN,), nested(13, "a"),
]
SIDE = ("side", (1, 0, 0, -1))
NO_TUPLES = [value for value in ANYTHING if not isinstance(value, tuple)]


def round_of_circle(at):
    """One of many different circles."""
    return (1, 0, 0, -1 - at)


def chain_of_nots(depth, leaf=SIDE):
    """A tree of so many levels."""
    tree = leaf
    for _ in range(depth - 1):
        tree = ("not", tree)
    return tree


WRONG_TREES = ANYTHING + [
    "all", ("all", ()), ("all", SIDE), ["all"], (b"all",), ("ALL",), ("none",), ("side",), ("rim",), ("not",), ("and",),
    ("or",), list(SIDE), ("side", [1, 0, 0, -1]), ("side", (1, 0, 0, 0)), ("side", (2, 0, 0, -2)), ("side", (1, 0, 1)),
    ("rim", (0, 0, 0, 0)), ("rim", (0, True, 0, 0)), ("side", (1, 0, 0, -1), 1), ("rim", 1, 0, 0, -1), (SIDE,), (SIDE, SIDE),
    ("not", SIDE, SIDE), ("not", (SIDE,)), ("not", ()), ("not", "all"), ("not", None), ("not", STUBBORN),
    ("and", ()), ("or", ()), ("and", SIDE), ("and", [SIDE]), ("or", [SIDE, SIDE]), ("and", SIDE, SIDE), ("and", (SIDE,) * 9),
    ("or", (("all",),) * 9), ("and", (SIDE, None)), ("or", (None, SIDE)), ("and", (SIDE, ["all"])), ("and", ((),)),
    ("and", STUBBORN), ("or", (STUBBORN,)), ("xor", (SIDE, SIDE)), ("and not", (SIDE, SIDE)), (STUBBORN, SIDE),
    chain_of_nots(7), chain_of_nots(7, ("all",)), chain_of_nots(12), ("and", (SIDE, chain_of_nots(6))),
    ("or", (("and", (SIDE,) * 8), ("and", (SIDE,) * 8), ("and", (SIDE,) * 8), SIDE)),
    ("and", (("or", (("rim", (0, 1, 0, 0)),) * 8),) * 4),
]

# None, True and False, then what is no small whole number.
NO_NUMBERS = ANYTHING[:3] + [
    2, -2, 5, BIG, -BIG, (), (0,), (1,), [], [1], "", "0", "1", b"1", STUBBORN, {}, object(), int, len, (None,), nested(14, 1),
]
WRONG_SIGNS = NO_NUMBERS
WRONG_WAYS = NO_NUMBERS + [0]
WRONG_BOTH_HANDS = NO_NUMBERS[1:] + [-1, -3]
WRONG_ONE_HANDS = NO_NUMBERS + [-1, -3]
WRONG_LINK_NUMBERS = ANYTHING[:3] + [0, -1, 13, 100, BIG, -BIG] + NO_NUMBERS[6:]
WRONG_LOTS = ANYTHING + [SIDE, ("all",), (("all",),), "lot"]
ARC = ((1, 0, 1), (0, 1, 1), (-1, 0, 1))
WRONG_ARCS = ANYTHING + [
    ARC[:2], ARC + ((0, -1, 1),), list(ARC), (ARC,), (ARC, ARC, ARC), "abc", b"abc", (1, 2, 3), {1: 1, 2: 2, 3: 3},
    ((1, 0, 1), (0, 1, 1), (1, 0, 1)), ((1, 0, 1), (1, 0, 1), (0, 1, 1)), ((0, 1, 1), (1, 0, 1), (1, 0, 1)),
    ((1, 0, 1),) * 3, (FAR, FAR, (0, 0, 1)), (FAR, (0, 0, 1), FAR), ((0, 0, 1), FAR, FAR), (FAR,) * 3,
    ([1, 0, 1], (0, 1, 1), (-1, 0, 1)), ((1, 0, 1), [0, 1, 1], (-1, 0, 1)), ((1, 0, 1), (0, 1, 1), [-1, 0, 1]),
    ((1, 0, 1), (0, 1, 1), STUBBORN), (STUBBORN, (0, 1, 1), (-1, 0, 1)), ((1, 0, 1), (0, True, 1), (-1, 0, 1)),
] + [ARC[:at] + (wrong,) + ARC[at + 1:] for wrong in WRONG_PLACES for at in (0, 1, 2)]


def indexes_of_wrong(goods, wrongs, most):
    """Wrong tuples of what each may stand there but for some wrong ones, with the index of the first wrong element.

    `goods` are at least so many and one more that may stand behind one another.
    """
    told = [(value, None) for value in NO_TUPLES + [list(goods[:2])]]
    for at, wrong in enumerate(wrongs):
        many = at % most
        told.append((goods[:many] + (wrong,), many))
        told.append((goods[:1] + (wrong, None) + goods[1:3], 1))
    told.extend([(goods[:most] + (None,), most), (goods[:most + 1], most), (goods[:most + 1] * 3, most), ((goods,), 0)])
    return told


PLACES = [
    FAR, (0, 0, 1), (1, 0, 1), (-1, 0, 1), (0, 1, 1), (0, -1, 1), (1, 1, 1), (2, 0, 1), (1, 0, 2), (0, 2, 3), (3, 4, 5),
    (-3, 4, 5), (1, 7, 10), (-5, -2, 3), (12, -5, 13), (100, 1, 7), (BIG, -BIG + 1, 3), (1, BIG, BIG + 1),
]
ROUNDS = [
    (1, 0, 0, -1), (1, 0, 0, -3), (1, 0, 0, -4), (0, 1, 0, 0), (0, 0, 1, 0), (0, 1, -1, 0), (0, 1, 1, -1), (0, 2, -3, 5),
    (0, 0, 1, -7), (1, -2, 0, 0), (2, -3, 0, -2), (1, 4, -6, 3), (3, -8, 0, -16), (5, 1, 1, -1), (0, 3, 4, BIG),
    (BIG, 1, 0, -BIG), (1, 2 * BIG, 0, 1),
]
LINES = [circle for circle in ROUNDS if circle[0] == 0]


class Samples:
    """The same samples in each run."""

    def __init__(self, seed):
        self._source = random.Random(seed)

    def whole(self, size=12):
        return self._source.randint(-size, size)

    def choice(self, values):
        return self._source.choice(values)

    def complex(self, size=12):
        return (self.whole(size), self.whole(size))

    def other_than_zero(self, size=12):
        while True:
            number = self.complex(size)
            if number != (0, 0):
                return number

    def ratio(self, size=12):
        p, s, r = self.whole(size), self.whole(size), self._source.randint(1, size)
        common = gcd(gcd(p, s), r)
        return (p // common, s // common, r // common)

    def place(self, size=12):
        return FAR if self._source.randint(0, 9) == 0 else self.ratio(size)

    def places(self, many, size=12):
        found = []
        while len(found) < many:
            place = self.place(size)
            if place not in found:
                found.append(place)
        return tuple(found)

    def row(self, size=12):
        while True:
            q, l, m, k = [self.whole(size) for _ in range(4)]
            if self._source.randint(0, 3) == 0:
                q = 0
            common = gcd(gcd(q, l), gcd(m, k))
            if common and l * l + m * m > 4 * q * k:
                return (q // common, l // common, m // common, k // common)

    def circle(self, size=12):
        row = self.row(size)
        return row if row > (0, 0, 0, 0) else tuple(-number for number in row)

    def numbers(self, size=12):
        while True:
            a, b, c, d = [self.complex(size) for _ in range(4)]
            if self._source.randint(0, 4) == 0:
                c = (0, 0)
            if value_of(a) * value_of(d) != value_of(b) * value_of(c):
                return (a, b, c, d)

    def fraction(self, size=12):
        n, m = self._source.randint(1, size), self._source.randint(1, size)
        return (n // gcd(n, m), m // gcd(n, m))

    def ring(self):
        low, high = self.fraction(5), self.fraction(90)
        while Fraction(*low) >= Fraction(*high):
            low, high = self.fraction(5), self.fraction(90)
        return (low, high)

    def cell(self):
        word = self.choice(("carry", "grow", "turnabout", "mirror"))
        ratio = self.ratio()
        while ratio in ((0, 0, 1), (1, 0, 1)):
            ratio = self.ratio()
        if word == "carry":
            return (word, ratio)
        if word == "grow":
            return (word, self.ratio(), ratio, self.ring())
        if word == "turnabout":
            n, m = self.fraction()
            return (word, self.ratio(), (n if self.whole() > 0 else -n, m), self.ring())
        line = (0, 0, 0, 0)
        while line[0] or line == (0, 0, 0, 0):
            line = self.circle()
        return (word, line)

    def arc(self, size=3):
        return self.places(3, size)

    def curve(self, many, size=3):
        """A curve of so many arcs."""
        arcs = [self.arc(size)]
        while len(arcs) < many:
            over, end = self.places(2, size)
            if arcs[-1][2] not in (over, end):
                arcs.append((arcs[-1][2], over, end))
        return tuple(arcs)

    def chart(self, size=5):
        return map_of(self.choice((0, 1)), *self.numbers(size))

    def arm(self, most=4):
        return tuple(self.cell() for _ in range(self._source.randint(0, most)))


class Value:
    """A complex number with fractions as parts, worked out apart from the package."""

    def __init__(self, real, imaginary=0):
        self.real, self.imaginary = Fraction(real), Fraction(imaginary)

    def __eq__(self, other):
        return (self.real, self.imaginary) == (other.real, other.imaginary)

    def __add__(self, other):
        return Value(self.real + other.real, self.imaginary + other.imaginary)

    def __sub__(self, other):
        return Value(self.real - other.real, self.imaginary - other.imaginary)

    def __mul__(self, other):
        return Value(self.real * other.real - self.imaginary * other.imaginary,
                     self.real * other.imaginary + self.imaginary * other.real)

    def __truediv__(self, other):
        product, size = self * other.conjugate(), other.norm()
        return Value(product.real / size, product.imaginary / size)

    def __repr__(self):
        return f"Value({self.real}, {self.imaginary})"

    def conjugate(self):
        return Value(self.real, -self.imaginary)

    def norm(self):
        return self.real * self.real + self.imaginary * self.imaginary


def value_of(number):
    """The value of a pair, or of a place other than the far one."""
    if len(number) == 3:
        return Value(Fraction(number[0], number[2]), Fraction(number[1], number[2]))
    return Value(*number)


def place_with(value):
    """The place of a value; the far one for None."""
    if value is None:
        return FAR
    under = value.real.denominator * value.imaginary.denominator // gcd(value.real.denominator, value.imaginary.denominator)
    return (int(value.real * under), int(value.imaginary * under), under)


def quotient_place(upper, lower):
    """The place of a quotient of two values."""
    return FAR if lower == Value(0) else place_with(upper / lower)


class ArgumentCase(unittest.TestCase):
    """Checks of what is raised for wrong arguments, by position and by name."""

    def raised(self, error, function, *values, **named):
        """The error that a call raises, of just this class."""
        with self.assertRaises(error) as caught:
            function(*values, **named)
        self.assertIs(caught.exception.__class__, error)
        return caught.exception

    def check_given(self, error, function, arguments, name, wrong):
        """The call with one wrong argument raises the error with it as `given`."""
        passed = {**arguments, name: wrong}
        before = copy.deepcopy(wrong) if isinstance(wrong, (list, dict)) else wrong
        for caught in (self.raised(error, function, *passed.values()), self.raised(error, function, **passed)):
            self.assertIs(caught.given, wrong)
        if isinstance(wrong, (list, dict)):
            self.assertEqual(wrong, before)

    def check_all_given(self, function, arguments, wrongs):
        """Each wrong value in each place; `wrongs` has for each name an error and its wrong values.

        Then all arguments from one on are wrong, and the error is that of this one.
        """
        for name, (error, values) in wrongs.items():
            for wrong in values:
                self.check_given(error, function, arguments, name, wrong)
        names = list(arguments)
        for at, name in enumerate(names):
            passed = {**arguments, **{late: [late] for late in names[at:]}}
            caught = self.raised(wrongs[name][0], function, **passed)
            if "given" in vars(caught):
                self.assertIs(caught.given, passed[name])

    def check_indexes(self, error, function, arguments, name, told):
        """The call with each wrong tuple raises the error with the index that is told beside it."""
        for wrong, index in told:
            passed = {**arguments, name: wrong}
            for caught in (self.raised(error, function, *passed.values()), self.raised(error, function, **passed)):
                self.assertIs(caught.index.__class__, index.__class__)
                self.assertEqual(caught.index, index)

    def same_by_name(self, function, arguments, expected):
        """A call by position and by name returns what is expected."""
        for result in (function(*arguments.values()), function(**arguments)):
            self.assertEqual(result, expected)
            self.assertIs(result.__class__, expected.__class__)
