"""Texts of numbers and arms, as consoles write and read them; nothing is checked here."""

from drawarms.arms import is_arm
from drawarms.wholes import is_whole

DIGITS = "0123456789"
# Python turns only numbers of some thousand figures into texts and back.
FIGURES = 60
GROUP = 10 ** 60
SIZES = {"carry": (3,), "grow": (3, 3, 2, 2), "turnabout": (3, 2, 2, 2), "mirror": (4,)}


def number_text(number):
    """A whole number as Python writes it, however great it is."""
    left, groups = abs(number), []
    while left >= GROUP:
        left, group = divmod(left, GROUP)
        groups.append(str(group).zfill(FIGURES))
    return ("-" if number < 0 else "") + "".join([str(left)] + groups[::-1])


def number_from(text):
    """The whole number of a text; None for what Python does not write so."""
    figures = text[1:] if text.startswith("-") else text
    if figures == "" or not all([figure in DIGITS for figure in figures]):
        return None
    if figures.startswith("0") and text != "0":
        return None
    number, first = 0, len(figures) % FIGURES
    if first > 0:
        number = int(figures[:first])
    for at in range(first, len(figures), FIGURES):
        number = number * GROUP + int(figures[at:at + FIGURES])
    return -number if text.startswith("-") else number


def _numbers_in(value):
    """All whole numbers in a value of tuples, in order."""
    if is_whole(value):
        return [value]
    numbers = []
    for part in value:
        numbers.extend(_numbers_in(part))
    return numbers


def numbers_text(value):
    """The numbers of a place, a map or a round in order, with one blank between."""
    return " ".join([number_text(number) for number in _numbers_in(value)])


def numbers_from(text):
    """The tuple of the whole numbers of a text with one blank between; None for another text."""
    numbers = [number_from(word) for word in text.split(" ")]
    return None if None in numbers else tuple(numbers)


def arm_text(arm):
    """The text of an arm."""
    return "; ".join([cell[0] + " " + numbers_text(cell[1:]) for cell in arm]) if arm else "nothing"


def _cell_from(text):
    """The cell of a text, whether or not the numbers make one; None for another text."""
    word, _, rest = text.partition(" ")
    numbers = numbers_from(rest)
    if word not in SIZES or numbers is None or len(numbers) != sum(SIZES[word]):
        return None
    groups = []
    for size in SIZES[word]:
        groups.append(numbers[:size])
        numbers = numbers[size:]
    return (word,) + tuple(groups) if len(groups) == 1 else (word, groups[0], groups[1], tuple(groups[2:]))


def arm_from(text):
    """The arm of a text; None for another text."""
    if text == "nothing":
        return ()
    arm = tuple([_cell_from(part) for part in text.split("; ")])
    return arm if is_arm(arm) else None
