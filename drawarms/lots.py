"""Lots of places, told by trees of sides and rims."""

from drawarms.errors import InvalidFraction, InvalidLot, InvalidRing, NotALot, TooMany
from drawarms.places import require_place, require_ratio
from drawarms.rings import is_ring
from drawarms.rounds import opposite, row_value
from drawarms.trees import is_tree, tree_holds, tree_rounds
from drawarms.wholes import is_fraction, reduced, sign_of

MOST_ROUNDS = 8


def require_few(rounds):
    """Raise TooMany for more rounds than may be asked about together."""
    if len(rounds) > MOST_ROUNDS:
        raise TooMany(len(rounds))


class Lot:
    """A set of places that is told by a tree."""

    def __init__(self, tree):
        if not is_tree(tree):
            raise InvalidLot(tree)
        rounds = tree_rounds(tree)
        require_few(rounds)
        self._tree = tree
        self._rounds = rounds

    def __eq__(self, other):
        # Whatever the other one says of this.
        return self is other

    @property
    def tree(self):
        """The tree as it was passed."""
        return self._tree

    @property
    def rounds(self):
        """The ascending tuple of the different rounds of the tree."""
        return self._rounds


def require_lot(lot):
    """Raise NotALot for what is no lot."""
    if not isinstance(lot, Lot):
        raise NotALot(lot)


def rounds_together(lot, other):
    """The ascending tuple of the different rounds of two lots."""
    return tuple(sorted(set(lot.rounds + other.rounds)))


def _require_both(lot, other):
    require_lot(lot)
    require_lot(other)
    require_few(rounds_together(lot, other))


def _lot_of(tree, rounds):
    # A lot that is made of lots may have a greater tree than one that is passed.
    lot = Lot(("all",))
    lot._tree = tree
    lot._rounds = rounds
    return lot


def holds(lot, place):
    """Whether a place is in a lot."""
    require_lot(lot)
    require_place(place)
    sides = {circle: sign_of(row_value(circle, place)) for circle in lot.rounds}
    return tree_holds(lot.tree, sides)


def both(lot, other):
    """The lot of the places that are in both."""
    _require_both(lot, other)
    return _lot_of(("and", (lot.tree, other.tree)), rounds_together(lot, other))


def either(lot, other):
    """The lot of the places that are in one of both, or in both."""
    _require_both(lot, other)
    return _lot_of(("or", (lot.tree, other.tree)), rounds_together(lot, other))


def less(lot, other):
    """The lot of the places of the first one that are not in the other one."""
    _require_both(lot, other)
    return _lot_of(("and", (lot.tree, ("not", other.tree))), rounds_together(lot, other))


def rest(lot):
    """The lot of all other places."""
    require_lot(lot)
    return _lot_of(("not", lot.tree), lot.rounds)


def beyond_row(pole, square):
    """The row whose side are the far place and all places whose distance has at least a square."""
    p, s, r = pole
    n, m = square
    return reduced((m * r * r, -2 * m * p * r, -2 * m * s * r, m * (p * p + s * s) - n * r * r))


def disc_tree(pole, square):
    """The tree of all places, but the far one, whose distance has at most a square."""
    require_ratio(pole)
    if not is_fraction(square):
        raise InvalidFraction(square)
    return ("side", opposite(beyond_row(pole, square)))


def ring_tree(pole, ring):
    """The tree of all places that keep a ring with a place."""
    require_ratio(pole)
    if not is_ring(ring):
        raise InvalidRing(ring)
    low, high = ring
    return ("and", (("side", beyond_row(pole, low)), ("side", opposite(beyond_row(pole, high)))))
