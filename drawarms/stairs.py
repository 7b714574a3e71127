"""Linear equations with whole numbers, brought to stairs; nothing is checked here."""

from math import lcm

from drawarms.wholes import common_of


def _cut_down(equation):
    """An equation without a common divisor."""
    common = common_of(equation)
    return [number // common for number in equation] if common > 1 else equation


def _cleared(equation, stair, column):
    """An equation less a multiple of a stair, so that one number of it is 0."""
    many, other_many = stair[column], equation[column]
    return _cut_down([many * number - other_many * beside for number, beside in zip(equation, stair)])


def stairs_of(equations):
    """The stairs: pairs of the column in which a stair begins, where all others are 0, and the stair."""
    left = [list(equation) for equation in equations]
    stairs = []
    for column in range(len(left[0]) if left else 0):
        first = [at for at, equation in enumerate(left) if equation[column] != 0]
        if first:
            stair = _cut_down(left.pop(first[0]))
            left = [_cleared(equation, stair, column) for equation in left]
            stairs = [(before, _cleared(row, stair, column)) for before, row in stairs]
            stairs.append((column, stair))
    return stairs


def _solution(stairs, many, free):
    """The solution without a common divisor that is above 0 at one free column and 0 at the other free ones."""
    under = 1
    for column, stair in stairs:
        if stair[free] != 0:
            under = lcm(under, stair[column])
    solution = [0] * many
    solution[free] = under
    for column, stair in stairs:
        solution[column] = -under * stair[free] // stair[column]
    return tuple(_cut_down(solution))


def base_of(equations, many):
    """For each free one of so many columns, in order, the solution that is above 0 there, 0 at the other free ones."""
    stairs = stairs_of(equations)
    begun = [column for column, _ in stairs]
    return [_solution(stairs, many, free) for free in range(many) if free not in begun]
