"""Whole numbers and tuples of them, unchecked but for the functions that ask."""

from math import gcd, isqrt


def is_whole(value):
    """Whether a value is a whole number: an integer other than True and False."""
    return isinstance(value, int) and not isinstance(value, bool)


def are_wholes(value, many):
    """Whether a value is a tuple of so many whole numbers."""
    if not isinstance(value, tuple) or len(value) != many:
        return False
    return all([is_whole(part) for part in value])


def common_of(numbers):
    """The greatest common divisor of whole numbers; 0 if all are 0."""
    common = 0
    for number in numbers:
        common = gcd(common, number)
    return common


def reduced(numbers):
    """Whole numbers, not all 0, divided by their greatest common divisor."""
    common = common_of(numbers)
    return tuple([number // common for number in numbers])


def is_fraction(value):
    """Whether a value is a reduced pair of whole numbers above 0."""
    return are_wholes(value, 2) and value[0] > 0 and value[1] > 0 and common_of(value) == 1


def sign_of(number):
    """1, 0 or -1, as a whole number is above, at or below 0."""
    if number > 0:
        return 1
    return -1 if number < 0 else 0


def whole_root(number):
    """The root of a whole number that is not below 0; None if it is no square."""
    root = isqrt(number)
    return root if root * root == number else None
