"""Which columns of whole numbers are sums of whole multiples of others; nothing is checked here."""

from math import gcd

from drawarms.lattices import less_times, short_base, shortened


def _cleared(columns, row):
    """Columns with the same sums, of which at most one is not 0 in a row: a list with this one, and the others."""
    begun = [column for column in columns if column[row] != 0]
    others = [column for column in columns if column[row] == 0]
    while len(begun) > 1:
        sizes = [abs(column[row]) for column in begun]
        least = begun.pop(sizes.index(min(sizes)))
        rests = [less_times(column, column[row] // least[row], least) for column in begun]
        begun = [least] + [column for column in rests if column[row] != 0]
        others.extend([column for column in rests if column[row] == 0])
    return begun, others


def _stairs(columns, many):
    """For some of so many rows, a sum of columns that is 0 in all rows before it; and sums that are 0 in all of them.

    Behind each of these sums stands how often each column is in it.
    """
    left = [list(column) + [int(at == other) for other in range(len(columns))] for at, column in enumerate(columns)]
    stairs = {}
    for row in range(many):
        begun, left = _cleared(left, row)
        if begun:
            stairs[row] = begun[0]
    return stairs, left


def _taken_down(stairs, goal, many):
    """A goal less multiples of stairs, and the first row in which it can't be made 0; None if there is none."""
    left = list(goal) + [0] * many
    for row in range(len(goal)):
        if left[row] != 0:
            stair = stairs.get(row)
            if stair is None or left[row] % stair[row] != 0:
                return left, row
            left = less_times(left, left[row] // stair[row], stair)
    return left, None


def multiples_for(columns, goal, many):
    """How often the first so many columns are in a sum of all that is a goal, in short numbers; None if there is none.

    The other columns must be no sums of one another, so that what is left of sums that are 0 is not 0.
    """
    stairs, noughts = _stairs(columns, len(goal))
    left, row = _taken_down(stairs, goal, len(columns))
    if row is not None:
        return None
    start, end = len(goal), len(goal) + many
    return shortened([-number for number in left[start:end]], short_base([nought[start:end] for nought in noughts]))


def barring_weights(columns, goal):
    """Weights of the rows and a number above 1 that divides the weight of each column, but not that of a goal.

    None if the columns make the goal.
    """
    stairs, _ = _stairs(columns, len(goal))
    left, row = _taken_down(stairs, goal, len(columns))
    if row is None:
        return None
    # With this row alone the goal would be barred; the rows before it take back what it does to their stairs.
    number = stairs[row][row] if row in stairs else 2 * left[row]
    weights = [int(at == row) for at in range(len(goal))]
    for before in range(row - 1, -1, -1):
        if before in stairs:
            stair = stairs[before]
            weight = sum([many * part for many, part in zip(weights, stair)])
            factor = stair[before] // gcd(weight, stair[before])
            weights = [factor * many for many in weights]
            weights[before] = -(factor * weight) // stair[before]
            number = number * factor
    number = abs(number)
    return [many % number for many in weights], number
