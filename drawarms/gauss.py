"""Complex numbers with whole parts, as pairs; nothing is checked here."""

from drawarms.wholes import common_of, whole_root

NOUGHT = (0, 0)


def plus(number, other):
    """The sum of two complex numbers."""
    return (number[0] + other[0], number[1] + other[1])


def minus(number, other):
    """The first complex number less the other one."""
    return (number[0] - other[0], number[1] - other[1])


def negative(number):
    """The complex number with both signs changed."""
    return (-number[0], -number[1])


def times(number, other):
    """The product of two complex numbers."""
    a, b = number
    c, d = other
    return (a * c - b * d, a * d + b * c)


def scaled(number, whole):
    """A complex number times a whole one."""
    return (number[0] * whole, number[1] * whole)


def conjugate_of(number):
    """The conjugate."""
    return (number[0], -number[1])


def norm_of(number):
    """The square of the size."""
    return number[0] * number[0] + number[1] * number[1]


def is_quarter(number):
    """Whether the first part is above 0 and the second one not below 0."""
    return number[0] > 0 and number[1] >= 0


def turned(number):
    """The number times i."""
    return (-number[1], number[0])


def quarter_of(number):
    """The quarter form; (0, 0) has itself."""
    if number == NOUGHT:
        return number
    while not is_quarter(number):
        number = turned(number)
    return number


def exact_quotient(number, other):
    """What makes the first number, times the other one; None if nothing does, or the other one is (0, 0)."""
    size = norm_of(other)
    if size == 0:
        return None
    first, second = times(number, conjugate_of(other))
    if first % size or second % size:
        return None
    return (first // size, second // size)


def rest_of(number, other):
    """The first number less a multiple of the other one, not (0, 0), of at most half its norm."""
    size = norm_of(other)
    first, second = times(number, conjugate_of(other))
    nearest = ((2 * first + size) // (2 * size), (2 * second + size) // (2 * size))
    return minus(number, times(nearest, other))


def divisor_of(numbers):
    """The greatest common divisor in quarter form; (0, 0) if all are (0, 0)."""
    divisor = NOUGHT
    # The smallest one first, so that all others are cut down to its size at once.
    for number in sorted(numbers, key=norm_of):
        divisor = _divisor_of_two(divisor, number)
    return quarter_of(divisor)


def _divisor_of_two(number, other):
    if number == NOUGHT:
        return other
    other = rest_of(other, number)
    # The parts of all products of a number and a conjugate have the norm of the divisor as theirs.
    # It is found quickly, and the numbers cut down to it need few steps, however great they are.
    first, second = times(number, conjugate_of(other))
    size = common_of((norm_of(number), norm_of(other), first, second))
    return _divisor_by_steps(_divisor_by_steps((size, 0), number), other)


def _divisor_by_steps(number, other):
    while other != NOUGHT:
        number, other = other, rest_of(number, other)
    return number


def complex_root(number):
    """The root whose first part is above 0, or 0 and the second one not below 0; None if there is none."""
    size = whole_root(norm_of(number))
    if size is None or (size + number[0]) % 2:
        return None
    first = whole_root((size + number[0]) // 2)
    second = whole_root((size - number[0]) // 2)
    if first is None or second is None:
        return None
    return (first, -second) if number[1] < 0 else (first, second)
