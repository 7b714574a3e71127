"""Trees and lots that the tests of lots, reaches and curves share."""

from drawarms.lots import Lot
from tests.support import Samples, round_of_circle

ALL = ("all",)
NONE = ("not", ALL)
RIM = ("rim", (0, 1, 0, 0))
EIGHT = [round_of_circle(at) for at in range(8)]
NINE = [round_of_circle(at) for at in range(9)]


def tree_with(rounds):
    """A tree with more than eight sides, if need be."""
    leaves = [("side", circle) for circle in rounds]
    return ("or", (("and", tuple(leaves[:8])), ("and", tuple(leaves[8:]) or (ALL,))))


def sample_tree(samples, levels, rows):
    word = samples.choice(("side", "rim", "all", "not", "and", "or", "and", "or", "not"))
    if levels == 1 or word in ("side", "rim", "all"):
        leaf = word if word in ("side", "rim", "all") else "side"
        return ALL if leaf == "all" else (leaf, samples.choice(rows))
    if word == "not":
        return (word, sample_tree(samples, levels - 1, rows))
    return (word, tuple(sample_tree(samples, levels - 1, rows) for _ in range(samples.choice((1, 2, 2)))))


def sample_lots(seed, many):
    samples = Samples(seed)
    lots = []
    while len(lots) < many:
        rows = [samples.row(3) for _ in range(2)] + [(1, 0, 0, -1), (-1, 0, 0, 1), (0, 0, 1, 0), (0, -1, 0, 0)]
        lots.append(Lot(sample_tree(samples, samples.choice((1, 3, 4)), rows)))
    return lots


def rich_lots(seed, many, most_rounds=8):
    """Lots with up to so many rounds, some of them through one place or touching."""
    samples = Samples(seed)
    lots = []
    while len(lots) < many:
        rows = [samples.row(3) for _ in range(samples.choice((1, 2, 3, 6)))]
        lot = Lot(sample_tree(samples, samples.choice((2, 3, 4, 5)), rows + [(1, 0, 0, -1), (0, 0, 1, 0), (0, 0, 1, -1)]))
        if len(lot.rounds) <= most_rounds:
            lots.append(lot)
    return lots
