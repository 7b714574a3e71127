"""What a stock of `grow` cells at one pole can make."""

from drawarms.columns import barring_weights, multiples_for
from drawarms.errors import InvalidExponents, InvalidRatio, InvalidRing, InvalidSize, InvalidStock
from drawarms.gauss import norm_of
from drawarms.places import ZERO, is_ratio, product_of, require_ratio
from drawarms.powers import base_for, exponents_in
from drawarms.ratios import ONE, reciprocal
from drawarms.rings import is_ring
from drawarms.stairs import stairs_of
from drawarms.wholes import is_fraction, is_whole

MOST_RATIOS = 6
MOST_EXPONENT = 60
MOST_CELLS = 4


def is_factor(value):
    """Whether a value is a ratio other than 0."""
    return is_ratio(value) and value != ZERO


def first_wrong_ratio(value):
    """The index of the first element of a tuple that may not be there in a stock; None if there is none."""
    for index, ratio in enumerate(value):
        if index == MOST_RATIOS or not is_factor(ratio) or ratio == ONE:
            return index
    return None


def is_stock(value):
    """Whether a value is a stock."""
    return isinstance(value, tuple) and len(value) > 0 and first_wrong_ratio(value) is None


def _require_stock(stock):
    if not is_stock(stock):
        raise InvalidStock(first_wrong_ratio(stock) if isinstance(stock, tuple) else None)


def _require_factor(ratio):
    if not is_factor(ratio):
        raise InvalidRatio(ratio)


def _are_exponents(value, many):
    if not isinstance(value, tuple) or len(value) != many:
        return False
    return all([is_whole(number) and -MOST_EXPONENT <= number <= MOST_EXPONENT for number in value])


def product_of_powers(stock, exponents):
    """The product of the stocked ratios, each to the power of its exponent."""
    _require_stock(stock)
    if not _are_exponents(exponents, len(stock)):
        raise InvalidExponents(exponents)
    found = ONE
    for ratio, many in zip(stock, exponents):
        step = ratio if many > 0 else reciprocal(ratio)
        for _ in range(abs(many)):
            found = product_of(found, step)
    return found


def columns_of(ratios, base):
    """What the ratios are, written in a base, and behind them what the fourth power of i is."""
    return [exponents_in(ratio, base) for ratio in ratios] + [[0] * len(base) + [4]]


def _exponents(stock, ratio):
    """Exponents of a stock whose product is a ratio; None if there are none."""
    base = base_for(stock + (ratio,))
    exponents = multiples_for(columns_of(stock, base), exponents_in(ratio, base), len(stock))
    return None if exponents is None else tuple(exponents)


def _makes(stock, ratio):
    return _exponents(stock, ratio) is not None


def is_made(stock, ratio):
    """Whether a ratio is the product of some exponents."""
    return exponents_for(stock, ratio) is not None


def exponents_for(stock, ratio):
    """Any exponents whose product is the ratio, however great; None if there are none."""
    _require_stock(stock)
    _require_factor(ratio)
    return _exponents(stock, ratio)


def scale_for(stock, ratio):
    """Any scale that bars a ratio; None if it is made."""
    _require_stock(stock)
    _require_factor(ratio)
    base = base_for(stock + (ratio,))
    told = barring_weights(columns_of(stock, base), exponents_in(ratio, base))
    if told is None:
        return None
    weights, number = told
    return (base, tuple(weights[:-1]), weights[-1], number)


def makes_all(stock, other):
    """Whether the first stock makes each ratio that the other one makes."""
    _require_stock(stock)
    _require_stock(other)
    return all([_makes(stock, ratio) for ratio in other])


def needed_ratios(stock):
    """The ascending tuple of the indexes that are left if each ratio that the others make is left out."""
    _require_stock(stock)
    left = list(range(len(stock)))
    for index in range(len(stock) - 1, -1, -1):
        others = [at for at in left if at != index]
        if _makes(tuple([stock[at] for at in others]), stock[index]):
            left = others
    return tuple(left)


def independent(stock):
    """The ascending tuple of the indexes of the ratios of which no power is made, but for a unit, by those before."""
    _require_stock(stock)
    base = base_for(stock)
    rows = [exponents_in(ratio, base)[:-1] for ratio in stock]
    freedoms = [len(stairs_of(rows[:many])) for many in range(len(rows) + 1)]
    return tuple([at for at in range(len(rows)) if freedoms[at + 1] > freedoms[at]])


def is_size_made(stock, size):
    """Whether the stock makes some ratio whose norm is the size."""
    _require_stock(stock)
    if not is_fraction(size):
        raise InvalidSize(size)
    # Norms are ratios, too, and the norm of a product is the product of the norms.
    norms = [(norm_of(ratio[:2]), 0, ratio[2] * ratio[2]) for ratio in stock]
    return _makes(tuple(norms), (size[0], 0, size[1]))


def _factors_for(steps, ratio):
    """The fewest of some steps, at most four, whose product a ratio is; None if there are none."""
    found = {ONE: ()}
    level = [ONE]
    for _ in range(MOST_CELLS):
        if ratio in found:
            return found[ratio]
        reached = []
        for before in level:
            for step in steps:
                product = product_of(before, step)
                if product not in found:
                    found[product] = found[before] + (step,)
                    reached.append(product)
        level = reached
    return found.get(ratio)


def stock_arm(stock, pole, ratio, ring):
    """Any arm of the fewest stocked cells, at most four, with a pole and a ring, for a ratio; None if there is none."""
    _require_stock(stock)
    require_ratio(pole)
    _require_factor(ratio)
    if not is_ring(ring):
        raise InvalidRing(ring)
    factors = _factors_for(list(stock) + [reciprocal(step) for step in stock], ratio)
    return None if factors is None else tuple([("grow", pole, factor, ring) for factor in factors])
