"""Maps through three places, and the ratio of four places."""

from drawarms.errors import InvalidTriple
from drawarms.gauss import minus, scaled, times
from drawarms.maps import map_from
from drawarms.matrices import adjugate, conjugates, matrix_product
from drawarms.places import is_place, quotient_place, require_place, upper_and_lower
from drawarms.rounds import require_unlike


def _require_triple(places):
    if not isinstance(places, tuple):
        raise InvalidTriple(None)
    for index, place in enumerate(places):
        if index == 3 or not is_place(place) or place in places[:index]:
            raise InvalidTriple(index)
    if len(places) < 3:
        raise InvalidTriple(len(places))


def _apart(place, other):
    """The difference of two places, times what stands under both; not (0, 0) for different ones."""
    number, under = upper_and_lower(place)
    other_number, other_under = upper_and_lower(other)
    return minus(scaled(number, other_under), scaled(other_number, under))


def _frame(places):
    """Four numbers that lead the far place, 0 and 1 to three different places."""
    first, second, third = places
    many, other_many = _apart(third, second), _apart(first, third)
    (number, under), (other_number, other_under) = upper_and_lower(first), upper_and_lower(second)
    return (
        times(many, number),
        times(other_many, other_number),
        scaled(many, under),
        scaled(other_many, other_under),
    )


def map_through(flag, sources, goals):
    """The map, plain for 0 and mirrored for 1, that leads three different places to three different ones."""
    frame = conjugates(_frame(sources)) if flag else _frame(sources)
    return map_from(flag, matrix_product(_frame(goals), adjugate(frame)))


def plain_through(sources, goals):
    """The plain map that leads three different places, in order, to three different ones."""
    _require_triple(sources)
    _require_triple(goals)
    return map_through(0, sources, goals)


def mirrored_through(sources, goals):
    """The mirrored map that leads three different places, in order, to three different ones."""
    _require_triple(sources)
    _require_triple(goals)
    return map_through(1, sources, goals)


def ratio_of_four(first, second, third, fourth):
    """The ratio of four different places."""
    places = (first, second, third, fourth)
    for place in places:
        require_place(place)
    require_unlike(places)
    # What stands under the places occurs above and below equally often; where one is far, a 1 is left.
    upper = times(_apart(first, third), _apart(second, fourth))
    return quotient_place(upper, times(_apart(second, third), _apart(first, fourth)))


def on_one_round(first, second, third, fourth):
    """Whether four different places lie on one round."""
    return ratio_of_four(first, second, third, fourth)[1] == 0
