"""Wishes: what a workshop's arms shall always do."""

from drawarms.arms import lets, map_of_cells, pen_of
from drawarms.gauss import NOUGHT
from drawarms.kinds import WORDS, kind_of
from drawarms.maps import round_led
from drawarms.names import is_name
from drawarms.places import is_place
from drawarms.reach import reaches_round
from drawarms.rounds import is_round


def _is_pen(wish):
    return len(wish) == 4 and is_place(wish[2]) and is_place(wish[3])


def _is_bars(wish):
    return len(wish) == 3 and is_place(wish[2])


def _is_leads(wish):
    return len(wish) == 4 and is_round(wish[2]) and is_round(wish[3])


def _is_draws(wish):
    return len(wish) == 3 and is_round(wish[2])


def _is_same(wish):
    return len(wish) == 3 and is_name(wish[2])


def _is_copies(wish):
    return len(wish) == 2


def _is_kind(wish):
    return len(wish) == 3 and isinstance(wish[2], str) and wish[2] in WORDS


FORMS = {
    "pen": _is_pen, "bars": _is_bars, "leads": _is_leads, "draws": _is_draws, "same": _is_same, "copies": _is_copies,
    "kind": _is_kind,
}


def is_wish(value):
    """Whether a value is a wish, its names being names, whether or not there are arms under them."""
    if not isinstance(value, tuple) or len(value) < 2 or not isinstance(value[0], str) or value[0] not in FORMS:
        return False
    has_form = FORMS[value[0]]
    return is_name(value[1]) and has_form(value)


def names_in(wish):
    """The names in a wish."""
    return wish[1:] if wish[0] == "same" else wish[1:2]


def _pen_holds(wish, arms):
    return pen_of(arms[wish[1]], wish[2]) == wish[3]


def _bars_holds(wish, arms):
    return not lets(arms[wish[1]], wish[2])


def _leads_holds(wish, arms):
    return round_led(map_of_cells(arms[wish[1]]), wish[2]) == wish[3]


def _draws_holds(wish, arms):
    return reaches_round(arms[wish[1]], wish[2])


def _same_holds(wish, arms):
    return map_of_cells(arms[wish[1]]) == map_of_cells(arms[wish[2]])


def _copies_holds(wish, arms):
    return map_of_cells(arms[wish[1]])[3] == NOUGHT


def _kind_holds(wish, arms):
    return kind_of(map_of_cells(arms[wish[1]])) == wish[2]


MEANINGS = {
    "pen": _pen_holds, "bars": _bars_holds, "leads": _leads_holds, "draws": _draws_holds, "same": _same_holds,
    "copies": _copies_holds, "kind": _kind_holds,
}


def does_hold(wish, arms):
    """Whether a wish holds for arms under their names."""
    meaning = MEANINGS[wish[0]]
    return meaning(wish, arms)
