"""The four numbers (a, b, c, d) of maps, as two rows of two; nothing is checked here."""

from drawarms.gauss import conjugate_of, minus, negative, plus, scaled, times


def determinant(numbers):
    """a * d - b * c."""
    a, b, c, d = numbers
    return minus(times(a, d), times(b, c))


def matrix_product(numbers, others):
    """The four numbers of the first ones after the other ones."""
    a, b, c, d = numbers
    e, f, g, h = others
    return (
        plus(times(a, e), times(b, g)),
        plus(times(a, f), times(b, h)),
        plus(times(c, e), times(d, g)),
        plus(times(c, f), times(d, h)),
    )


def adjugate(numbers):
    """The four numbers that, after the given ones, make multiples of a map that stays."""
    a, b, c, d = numbers
    return (d, negative(b), negative(c), a)


def conjugates(numbers):
    """The conjugates of complex numbers."""
    return tuple([conjugate_of(number) for number in numbers])


def led_parts(numbers, number, under):
    """The two complex numbers whose quotient a complex number by a whole one is led to."""
    a, b, c, d = numbers
    return plus(times(a, number), scaled(b, under)), plus(times(c, number), scaled(d, under))
