"""Ratios as products of powers of complex numbers that have no common divisors; nothing is checked here."""

from drawarms.gauss import NOUGHT, divisor_of, exact_quotient, norm_of, quarter_of, times

UNITS = ((1, 0), (0, 1), (-1, 0), (0, -1))


def is_unit(number):
    """Whether a complex number is a unit."""
    return norm_of(number) == 1


def _without(number, part):
    """How often a number that is no unit divides another one, and what is left of this."""
    powers, size = [part], norm_of(number)
    while norm_of(powers[-1]) * norm_of(powers[-1]) <= size:
        powers.append(times(powers[-1], powers[-1]))
    many = 0
    # Each power is the square of the one before it, so that great numbers are divided a few times only.
    for power in reversed(powers):
        left = exact_quotient(number, power)
        many = 2 * many + int(left is not None)
        number = number if left is None else left
    return many, number


def base_for(ratios):
    """Complex numbers, no units and each two without a common divisor, in which ratios other than 0 can be written."""
    numbers = [ratio[:2] for ratio in ratios] + [(ratio[2], 0) for ratio in ratios]
    # Small ones first, as what is left of great ones without them is small, too, as a rule.
    left = sorted(numbers, key=norm_of, reverse=True)
    base = []
    while left:
        number = left.pop()
        for part in base:
            number = _without(number, part)[1]
        if not is_unit(number):
            divisors = [divisor_of((part, number)) for part in base]
            common = [at for at, divisor in enumerate(divisors) if not is_unit(divisor)]
            if common:
                divisor = divisors[common[0]]
                left.extend([number, exact_quotient(base.pop(common[0]), divisor), divisor])
            else:
                base.append(quarter_of(number))
    return tuple(sorted(base))


def is_base(numbers):
    """Whether complex numbers are neither (0, 0) nor units, and each two have units alone as common divisors."""
    if any([number == NOUGHT or is_unit(number) for number in numbers]):
        return False
    for at, number in enumerate(numbers):
        if not all([is_unit(divisor_of((before, number))) for before in numbers[:at]]):
            return False
    return True


def exponents_in(ratio, base):
    """The exponents of the base's numbers in a ratio, and behind them that of i; None if it can't be written so."""
    upper, lower, exponents = ratio[:2], (ratio[2], 0), []
    for part in base:
        many, upper = _without(upper, part)
        other_many, lower = _without(lower, part)
        exponents.append(many - other_many)
    # What both have in common need not be written in the base, but no more than a unit may be left beside it.
    unit = exact_quotient(upper, lower)
    return exponents + [UNITS.index(unit)] if unit in UNITS else None
