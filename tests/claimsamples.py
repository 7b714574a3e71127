"""Claims of each kind with papers that hold, written by hand and apart from the package's certificates."""

from tests.support import BIG, FAR, RING, STAYS

ZERO, ONE, TWO, TURN, MINUS = (0, 0, 1), (1, 0, 1), (2, 0, 1), (0, 1, 1), (-1, 0, 1)
UNIT, FLAT, UPRIGHT = (1, 0, 0, -1), (0, 0, 1, 0), (0, 1, 0, 0)
GROW, CARRY = ("grow", ZERO, TWO, RING), ("carry", ONE)
HALF = ("grow", ZERO, (1, 0, 2), RING)
TURNABOUT, LINE = ("turnabout", ZERO, (4, 1), RING), ("mirror", UPRIGHT)
SLIDE = (0, (1, 0), (1, 0), (0, 0), (1, 0))
SPIN = (0, (1, 0), (0, 0), (0, 0), (0, -1))
FLIP = (0, (0, 0), (1, 0), (1, 0), (0, 0))
OVER = (1, (1, 0), (1, 0), (0, 0), (1, 0))
DISC, OUT = ("side", (-1, 0, 0, 1)), ("side", UNIT)
THREE = ((ZERO, ONE), (ONE, TWO), (FAR, FAR))
FOUR = THREE + ((TURN, (1, 1, 1)),)
CROSSED = THREE + ((ONE, (3, 0, 1)),)
REAL = THREE + (((5, 0, 1), (6, 0, 1)), ((-1, 0, 2), (1, 0, 2)))
NOT_FITTED = THREE + ((TURN, (7, 7, 3)),)
# Their first places lie on one line, their second ones on another one.
RAISED = ((ZERO, TURN), (ONE, (1, 1, 1)), (FAR, FAR))
UP = (0, (1, 0), (0, 1), (0, 0), (1, 0))
PAIR = (GROW, CARRY)
SEEN = ((ONE, (5, 0, 1)), (ZERO, ONE))
ALL_KINDS = ("carry", "grow", "turnabout", "mirror")


def deep(tree, many):
    """The same lot with a deeper tree."""
    for _ in range(many):
        tree = ("not", ("not", tree))
    return tree


def broad(tree):
    """The same lot with a tree of 64 times as many sides and rims."""
    return ("and", (("or", (tree,) * 8),) * 8)


NINE = ("or", tuple(("side", (1, 0, 0, -1 - at)) for at in range(8)))

HOLDING = [
    (("one map", (GROW, HALF), ()), ()), (("one map", (), ()), ()), (("one map", (LINE, LINE), ()), ()),
    (("two maps", (GROW,), ()), ONE), (("two maps", (GROW,), (CARRY,)), ZERO), (("two maps", (CARRY,), (TURNABOUT,)), FAR),
    (("return", STAYS, 1), ()), (("return", SPIN, 4), ()), (("return", FLIP, 2), ()), (("no return", SLIDE), ()),
    (("no return", OVER), ()),
    (("none", ("and", (DISC, OUT, ("not", ("rim", UNIT))))), ()), (("none", ("not", ("all",))), ()),
    (("none", deep(("not", ("all",)), 40)), ()),
    (("none", broad(("and", (("rim", (1, 0, 0, -3)), ("side", (0, 1, 0, -2)))))), ()),
    (("some", ("all",)), ()), (("some", DISC), (-1,)), (("some", DISC), (0,)), (("some", ("rim", (1, 0, 0, -3))), (0,)),
    (("some", broad(OUT)), (1,)),
    (("some", ("and", (DISC, ("side", UPRIGHT)))), (1, -1)), (("some", ("and", (DISC, ("side", UPRIGHT)))), (0, 0)),
    (("some", deep(NINE, 30)), (1,) * 8),
    (("inside", DISC, ("side", (-1, 0, 0, 4))), ()), (("inside", DISC, ("all",)), ()),
    (("inside", broad(DISC), deep(DISC, 20)), ()),
    (("outside", OUT, ("side", (1, 0, 0, -4))), (-1, 1)), (("outside", ("all",), DISC), (1,)),
    (("outside", ("side", (-1, 0, 0, 4)), deep(DISC, 9)), (0, 1)),
    (("keeps", FLIP, UNIT, -1), ()), (("keeps", SPIN, UNIT, 1), ()), (("keeps", SLIDE, UPRIGHT, 0), ()),
    (("keeps", STAYS, FLAT, 1), ()),
    (("closes", FLAT, (1, 0, -14, 48), 3), ()), (("closes", FLAT, (1, 0, -6, 8), 4), ()),
    (("closes", UNIT, (1, 0, 0, -9), 6), ()),
    (("never closes", UNIT, (1, 0, 0, -4)), ()), (("never closes", (1, 0, 0, -16), UNIT), ()),
    (("fits", FOUR, SLIDE), ()), (("fits", (), OVER), ()), (("fits", THREE, OVER), ()),
    (("no map", CROSSED, 0), ("crossed", 1, 3)), (("no map", CROSSED, 1), ("crossed", 3, 1)),
    (("no map", FOUR, 1), ("other", 0, 1, 2, 3)),
    (("no map", FOUR, 1), ("other", 3, 1, 0, 2)), (("no map", NOT_FITTED, 0), ("other", 0, 2, 1, 3)),
    (("no map", CROSSED, 0), ("other", 0, 1, 2, 3)),
    (("settled", THREE, 0, ONE, TWO), (SLIDE, (1,))), (("settled", THREE, None, ONE, TWO), (OVER, (1,))),
    (("settled", THREE[:1], 1, ZERO, ONE), (OVER, (0,))),
    (("settled", THREE, 0, TURN, (1, 1, 1)), (SLIDE, (0, 1, 2))), (("settled", THREE, 1, TURN, (1, -1, 1)), (OVER, (2, 0, 1))),
    (("settled", THREE, None, (5, 0, 1), (6, 0, 1)), (SLIDE, (0, 1, 2))),
    (("settled", REAL, None, (5, 0, 2), (7, 0, 2)), (OVER, (4, 0, 3))),
    (("settled", FOUR, None, (0, 2, 1), (1, 2, 1)), (SLIDE, (0, 1, 2, 3))),
    (("settled", FOUR, None, (9, 0, 1), (10, 0, 1)), (SLIDE, (3, 2, 0, 1))),
    (("settled", FOUR, None, (9, 0, 1), (10, 0, 1)), (SLIDE, (0, 1, 2))),
    (("settled", RAISED, None, (5, 0, 1), (5, 1, 1)), (UP, (0, 1, 2))),
    (("open", RAISED, None, (5, 1, 1)), (UP, (1, (1, 0), (0, 1), (0, 0), (1, 0)))),
    (("open", THREE, None, TURN), (SLIDE, OVER)), (("open", (), 0, ZERO), (STAYS, SLIDE)),
    (("open", (), None, ZERO), (SLIDE, FLIP)),
    (("open", ((FAR, FAR),), None, TURN), (OVER, SLIDE)), (("open", ((FAR, FAR),), 0, ONE), (SLIDE, STAYS)),
    (("made", (TWO, (1, 1, 1)), TURN), (-1, 2)), (("made", (TWO,), ONE), (0,)),
    (("made", (TWO, TWO), TWO), (BIG ** 3, 1 - BIG ** 3)),
    (("made", (TURN,), MINUS), (4 * BIG + 2,)), (("made", ((3, 4, 5),), (3, -4, 5)), (-1,)),
    (("not made", (TWO, (3, 0, 1)), TURN), (((2, 0), (3, 0)), (0, 0), 1, 2)),
    (("not made", ((8, 0, 1),), (4, 0, 1)), (((2, 0),), (1,), 0, 3)),
    (("not made", (MINUS,), TURN), ((), (), 1, 2)), (("not made", ((8, 0, 1),), (4, 0, 1)), (((1, -1),), (-1,), 2 * 6, 6)),
    (("not made", (TURN,), TWO), (((1, 1), (7, 2)), (1, BIG), 0, 3)),
    (("not made", ((3, 4, 5),), (4, 3, 5)), (((2, 1), (2, -1)), (0, 0), 1, 4)),
    (("not made", (TWO,), (3, 0, 1)), (((3, 0), (0, -2)), (5, 10), -10, 20)),
    (("fewest", STAYS, (), 0), ()), (("fewest", SLIDE, ALL_KINDS, 1), (CARRY,)),
    (("fewest", SLIDE, ("mirror",), 2), (LINE, ("mirror", (0, 2, 0, -1)))),
    (("fewest", (1, (0, 0), (4, 0), (1, 0), (0, 0)), ("mirror", "turnabout"), 1), (TURNABOUT,)), (("not of", SLIDE, ()), ()),
    (("not of", FLIP, ("grow", "carry", "mirror")), ()),
    (("not of", (0, (2, 1), (0, 0), (0, 0), (1, 0)), ("turnabout", "mirror")), ()),
    (("mended", PAIR, 0, "ratio", SEEN), (4, 0, 1)), (("mended", PAIR, 0, "pole", SEEN[:1]), (-2, 0, 1)),
    (("mended", PAIR, 1, "shift", ()), (BIG, 1, 3)),
    (("mended", (LINE,), 0, "line", (((1, 1, 1), (1, 1, 1)),)), (0, 1, 0, -1)),
    (("mended", (TURNABOUT,), 0, "pole", ((ZERO, (3, 0, 1)),)), (4, 0, 1)),
    (("mended", (TURNABOUT,), 0, "power", ((ONE, (-3, 0, 1)),)), (-3, 1)),
    (("mended", (TURNABOUT,), 0, "power", ((ZERO, FAR),)), (BIG, 7)),
    (("on", (TURNABOUT,), 0, "pole", (((5, 0, 1), (5, 0, 1)),), (1, -10, 0, 21)), ()),
    (("on", (("turnabout", ZERO, (3, 1), RING),), 0, "pole", ((ZERO, ZERO),) * 2, (1, 0, 0, -3)), ()),
    (("not there", PAIR, 1, "shift", SEEN), ()), (("not there", (TURNABOUT,), 0, "pole", ((ZERO, TWO),)), ()),
    (("not there", (LINE,), 0, "line", ((ZERO, FAR),)), ()),
]

# Claims that are so, with papers that do not show it.
NOT_SHOWN = [
    (("two maps", (GROW,), ()), ZERO), (("two maps", (GROW,), ()), FAR), (("two maps", (GROW,), ()), (2, 0, 2)),
    (("some", DISC), (1,)), (("some", DISC), (-1, -1)),
    (("some", DISC), ()), (("some", ("and", (DISC, ("side", UPRIGHT)))), (-1, -1)),
    (("some", ("or", (("side", UNIT), ("side", (1, 0, 0, -4))))), (1, -1)), (("outside", OUT, ("side", (1, 0, 0, -4))), (1, -1)),
    (("no map", CROSSED, 0), ("crossed", 0, 1)), (("no map", CROSSED, 0), ("crossed", 1, 1)),
    (("no map", CROSSED, 0), ("crossed", 1, -1)),
    (("no map", CROSSED, 0), ("crossed", -3, 3)), (("no map", CROSSED, 0), ("crossed", 1, 4)),
    (("no map", CROSSED, 0), ("other", 0, 1, 3, 2)),
    (("no map", FOUR, 1), ("other", 0, 1, 2, 2)), (("no map", FOUR, 1), ("other", 0, 1, 1, 3)),
    (("no map", FOUR, 1), ("other", 0, 1, 2, -1)),
    (("no map", FOUR, 1), ("other", 0, 1, 2, 4)), (("no map", FOUR, 1), ("other", 0, 1, 2)),
    (("no map", FOUR, 1), ("crossed", 0, 1, 2, 3)),
    (("no map", THREE[:1] + FOUR, 1), ("other", 0, 1, 2, 4)),
    (("settled", THREE, 0, ONE, TWO), (OVER, (1,))), (("settled", THREE, 0, ONE, TWO), (SLIDE, (0,))),
    (("settled", THREE, 0, ONE, TWO), (SLIDE, (-2,))),
    (("settled", THREE, 0, ONE, TWO), (SLIDE, ())), (("settled", THREE, 0, ONE, TWO), (SLIDE, (0, 1))),
    (("settled", THREE, 0, ONE, TWO), (SLIDE, (0, 1, 1))),
    (("settled", FOUR, 0, (0, 2, 1), (1, 2, 1)), (SLIDE, (0, 1, 2, 3))),
    (("settled", FOUR, None, (0, 2, 1), (1, 2, 1)), (SLIDE, (0, 1, 2))),
    (("settled", FOUR, None, (0, 2, 1), (1, 2, 1)), (SLIDE, (0, 1, 2, 2))),
    (("settled", FOUR, None, (0, 2, 1), (1, 2, 1)), (OVER, (0, 1, 2, 3))),
    (("settled", FOUR, None, (0, 2, 1), (1, 2, 1)), (SLIDE, (0, 1, 2, 3, 3))),
    (("settled", FOUR, None, (0, 2, 1), (1, 2, 1)), SLIDE),
    (("open", THREE, None, TURN), (SLIDE, SLIDE)), (("open", THREE, None, TURN), (SLIDE, FLIP)),
    (("open", (), 0, ZERO), (STAYS, OVER)),
    (("open", THREE, None, TURN), (SLIDE,)), (("open", THREE, None, TURN), (SLIDE, OVER, SLIDE)),
    (("made", (TWO, (1, 1, 1)), TURN), (1, -2)),
    (("made", (TWO, (1, 1, 1)), TURN), (-1, 2, 0)), (("made", (TWO,), ONE), ()), (("made", (TURN,), MINUS), (3,)),
    (("not made", (TWO, (3, 0, 1)), TURN), (((2, 0),), (0,), 1, 2)),
    (("not made", (TWO, (3, 0, 1)), TURN), (((2, 0), (3, 0)), (0, 0), 1, 3)),
    (("not made", (TWO, (3, 0, 1)), TURN), (((2, 0), (3, 0)), (0, 0), 1, 1)),
    (("not made", (TWO, (3, 0, 1)), TURN), (((2, 0), (3, 0)), (0, 0), -1, -2)),
    (("not made", (TWO, (3, 0, 1)), TURN), (((2, 0), (6, 0)), (0, 0), 1, 2)),
    (("not made", (TWO, (3, 0, 1)), TURN), (((2, 0), (3, 0), (0, 1)), (0, 0, 0), 1, 2)),
    (("not made", (TWO, (3, 0, 1)), TURN), (((2, 0), (3, 0), (0, 0)), (0, 0, 0), 1, 2)),
    (("not made", (TWO, (3, 0, 1)), TURN), (((2, 0), (3, 0)), (1, 0), 1, 2)),
    (("not made", (TWO, (3, 0, 1)), TURN), (((2, 0), (3, 0)), (0,), 1, 2)),
    (("not made", ((8, 0, 1),), (4, 0, 1)), (((2, 0),), (1,), 0, 2)),
    (("not made", (TWO, (3, 0, 1)), TURN), (((2, 0), (3, 0)), (0, 1), 1, 2)),
    (("fewest", SLIDE, ("grow",), 2), (LINE, ("mirror", (0, 2, 0, -1)))), (("fewest", SLIDE, ALL_KINDS, 1), ()),
    (("fewest", SLIDE, ("mirror", "grow"), 2), (CARRY,)),
    (("fewest", SLIDE, ("mirror",), 2), (LINE, LINE)),
    (("fewest", SLIDE, ALL_KINDS, 1), (LINE, ("mirror", (0, 2, 0, -1)))), (("fewest", STAYS, ("mirror",), 0), (LINE, LINE)),
    (("mended", PAIR, 0, "ratio", SEEN), (3, 0, 1)), (("mended", PAIR, 0, "ratio", SEEN), ONE),
    (("mended", PAIR, 0, "ratio", SEEN), (8, 0, 2)),
    (("mended", PAIR, 1, "shift", ()), ZERO), (("mended", PAIR, 1, "shift", ()), FAR),
    (("mended", (TURNABOUT,), 0, "power", ((ZERO, FAR),)), (0, 1)),
]
