"""Consoles: workshops that are asked and answer by texts."""

from drawarms.arms import map_of_cells, pen_of
from drawarms.errors import InvalidPhrase, NotAWorkshop
from drawarms.kinds import kind_of
from drawarms.names import is_name
from drawarms.texts import arm_from, arm_text, numbers_from, numbers_text
from drawarms.workshops import Workshop

DONE = "done"
ALONE = ("undo", "names")
WITH_NAME = ("drop", "arm", "map", "kind")
WITH_MORE = ("put", "pen")


def _place_from(text):
    """The three numbers of a text, whether or not they make a place; None for another text."""
    numbers = numbers_from(text)
    return numbers if numbers is not None and len(numbers) == 3 else None


def _phrase_of(line):
    """The word, the name and the arm or the place of a line, None for what it has not; None for what is no line."""
    if not isinstance(line, str):
        return None
    if line in ALONE:
        return line, None, None
    word, _, rest = line.partition(" ")
    if word in WITH_NAME:
        return (word, rest, None) if is_name(rest) else None
    name, _, text = rest.partition(": ")
    if word not in WITH_MORE or not is_name(name):
        return None
    told = arm_from(text) if word == "put" else _place_from(text)
    return None if told is None else (word, name, told)


class Console:
    """A workshop that is asked and answers by texts."""

    def __init__(self, shop):
        if not isinstance(shop, Workshop):
            raise NotAWorkshop(shop)
        self._shop = shop

    def __eq__(self, other):
        # Whatever the other one says of this.
        return self is other

    def say(self, line):
        """Do what a line says, and return the answer."""
        phrase = _phrase_of(line)
        if phrase is None:
            raise InvalidPhrase(line)
        word, name, told = phrase
        if word in ("put", "drop", "undo"):
            return self._do(word, name, told)
        if word == "names":
            return " ".join(self._shop.names) if self._shop.names else "none"
        return self._tell(word, self._shop.named(name), told)

    def _do(self, word, name, told):
        if word == "put":
            self._shop.put(name, told)
        elif word == "drop":
            self._shop.drop(name)
        else:
            self._shop.undo()
        return DONE

    def _tell(self, word, arm, place):
        if word == "arm":
            return arm_text(arm)
        if word == "map":
            return numbers_text(map_of_cells(arm))
        if word == "kind":
            return kind_of(map_of_cells(arm))
        pen = pen_of(arm, place)
        return "barred" if pen is None else numbers_text(pen)
