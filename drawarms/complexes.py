"""Complex numbers: pairs (a, b) of whole numbers that stand for a + b i."""

from drawarms.errors import InvalidComplex, InvalidNumbers
from drawarms.gauss import NOUGHT, complex_root, conjugate_of, divisor_of, exact_quotient, minus, norm_of, plus
from drawarms.gauss import quarter_of, times
from drawarms.wholes import are_wholes


def is_complex(value):
    """Whether a value is a pair of whole numbers."""
    return are_wholes(value, 2)


def require_complex(number):
    """Raise InvalidComplex for what is no complex number."""
    if not is_complex(number):
        raise InvalidComplex(number)


def _require_both(number, other):
    require_complex(number)
    require_complex(other)


def added(number, other):
    """The sum."""
    _require_both(number, other)
    return plus(number, other)


def subtracted(number, other):
    """The first number less the other one."""
    _require_both(number, other)
    return minus(number, other)


def product(number, other):
    """The product."""
    _require_both(number, other)
    return times(number, other)


def conjugate(number):
    """The conjugate (a, -b)."""
    require_complex(number)
    return conjugate_of(number)


def norm(number):
    """The norm a * a + b * b."""
    require_complex(number)
    return norm_of(number)


def quarter_form(number):
    """The product with a unit whose first part is above 0 and whose second one is not below 0."""
    require_complex(number)
    return quarter_of(number)


def quotient(number, other):
    """The complex number that, times the other one, makes the first one; None if there is none."""
    _require_both(number, other)
    return exact_quotient(number, other)


def _are_numbers(value):
    if not isinstance(value, tuple) or not 1 <= len(value) <= 8:
        return False
    if not all([is_complex(number) for number in value]):
        return False
    return any([number != NOUGHT for number in value])


def common_divisor(numbers):
    """The greatest common divisor, in quarter form, of one to eight numbers."""
    if not _are_numbers(numbers):
        raise InvalidNumbers(numbers)
    return divisor_of(numbers)


def root_of(number):
    """The complex number that, times itself, makes the number; None if there is none."""
    require_complex(number)
    return complex_root(number)
