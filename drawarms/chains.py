"""Chains of rounds that touch one another between two rounds."""

from drawarms.errors import InvalidNumber, Meets, NoLink
from drawarms.pencils import upright_equation
from drawarms.rounds import mixed, paired, require_both_rounds, require_round, require_unlike_rounds, round_from
from drawarms.stairs import base_of
from drawarms.wholes import is_whole, reduced, whole_root

MOST_LINKS = 12
COUNTS = {(49, 1): 3, (9, 1): 4, (25, 9): 6}


def _crossing(circle, other):
    """J * J and D * D'."""
    beside = paired(circle, other)
    return beside * beside, paired(circle, circle) * paired(other, other)


def _touch(circle, other):
    upper, lower = _crossing(circle, other)
    return circle != other and upper == lower


def _require_apart(circle, other):
    require_unlike_rounds(circle, other)
    upper, lower = _crossing(circle, other)
    if upper <= lower:
        raise Meets()


def chain_count(circle, other):
    """With how many links chains between two rounds close; None if never."""
    require_both_rounds(circle, other)
    _require_apart(circle, other)
    return COUNTS.get(reduced(_crossing(circle, other)))


def _links(circle, other, third):
    if not _touch(circle, third) or not _touch(other, third):
        return False
    return paired(third, circle) * paired(third, other) * paired(circle, other) < 0


def is_link(circle, other, third):
    """Whether a third round touches two rounds and lies between them."""
    require_both_rounds(circle, other)
    require_round(third)
    _require_apart(circle, other)
    return _links(circle, other, third)


def _require_link(circle, other, third):
    if not _links(circle, other, third):
        raise NoLink(third)


def are_neighbours(circle, other, link, next_link):
    """Whether two links are different and touch."""
    require_both_rounds(circle, other)
    require_both_rounds(link, next_link)
    _require_apart(circle, other)
    _require_link(circle, other, link)
    _require_link(circle, other, next_link)
    return _touch(link, next_link)


def _in_pencil_of(circle, other, link):
    """The part of a link in the pencil of two rounds, and what is left of it, both with one factor."""
    size, other_size, beside = paired(circle, circle), paired(other, other), paired(circle, other)
    first, second = paired(link, circle), paired(link, other)
    factor = size * other_size - beside * beside
    part = mixed(circle, first * other_size - second * beside, other, second * size - first * beside)
    return part, mixed(link, factor, part, -1), factor


def _neighbours_of(circle, other, link):
    """The ascending pair of the neighbours of a link; None if they are not told by whole numbers."""
    part, left, factor = _in_pencil_of(circle, other, link)
    size, left_size = paired(part, part), paired(left, left)
    # This is X', with one more factor.
    middle = mixed(part, left_size, left, -2 * size - left_size)
    factor = factor * left_size
    across = base_of([upright_equation(row) for row in (circle, other, link)], 4)[0]
    # h times the factor, squared, is `height` by the second number.
    height, across_size = factor * factor * paired(link, link) - paired(middle, middle), paired(across, across)
    root = whole_root(height * across_size)
    if root is None:
        return None
    rows = [mixed(middle, across_size, across, way * root) for way in (-1, 1)]
    return tuple(sorted([round_from(row) for row in rows]))


def next_links(circle, other, link):
    """The ascending pair of the neighbours of a link; None if they are not told by whole numbers."""
    require_both_rounds(circle, other)
    require_round(link)
    _require_apart(circle, other)
    _require_link(circle, other, link)
    return _neighbours_of(circle, other, link)


def _chain(circle, other, links, many):
    """So many links that go on behind two of them."""
    links = list(links)
    while len(links) < many:
        first, second = _neighbours_of(circle, other, links[-1])
        links.append(second if first == links[-2] else first)
    return tuple(links[:many])


def links_on(circle, other, link, many):
    """So many links of the chain from a link to the lesser one of its neighbours; None if they are not whole."""
    require_both_rounds(circle, other)
    require_round(link)
    if not is_whole(many) or not 1 <= many <= MOST_LINKS:
        raise InvalidNumber(many)
    _require_apart(circle, other)
    _require_link(circle, other, link)
    if many == 1:
        return (link,)
    neighbours = _neighbours_of(circle, other, link)
    return None if neighbours is None else _chain(circle, other, (link, neighbours[0]), many)
