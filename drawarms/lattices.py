"""Short ones among vectors of whole numbers and sums of multiples of others; nothing is checked here."""


def less_times(vector, many, other):
    """A vector less so many times another one."""
    return [number - many * beside for number, beside in zip(vector, other)]


def _inner(vector, other):
    return sum([number * beside for number, beside in zip(vector, other)])


def _table(vectors):
    """What the vectors are along those before them, in whole numbers.

    The last number of each row is the determinant of the inner products of the vectors up to this one. Each other one,
    by the last number of its column's row, is how often what is new in that vector is in this one.
    """
    table = []
    for at, vector in enumerate(vectors):
        table.append([])
        for other in range(at + 1):
            number, before = _inner(vector, vectors[other]), 1
            for column in range(other):
                last = table[column][column]
                number = (last * number - table[at][column] * table[other][column]) // before
                before = last
            table[at].append(number)
    return table


def shortened(vector, vectors):
    """A vector less whole multiples of others, which makes it about as short as can be."""
    for at in range(len(vectors) - 1, -1, -1):
        table = _table(vectors + [vector])
        size, along = table[at][at], table[-1][at]
        vector = less_times(vector, (2 * along + size) // (2 * size), vectors[at])
    return vector


def _are_in_order(vectors):
    """Whether what is new in the last vector is not much shorter than what the one before it brought."""
    table = _table(vectors)
    before = table[-3][-1] if len(table) > 2 else 1
    size, along = table[-2][-1], table[-1][-2]
    return 4 * before * table[-1][-1] >= 3 * size * size - 4 * along * along


def short_base(vectors):
    """Short vectors with the same sums of whole multiples as some of which none is a sum of others."""
    vectors, at = list(vectors), 1
    while at < len(vectors):
        vectors[at] = shortened(vectors[at], vectors[:at])
        if _are_in_order(vectors[:at + 1]):
            at = at + 1
        else:
            vectors[at - 1], vectors[at] = vectors[at], vectors[at - 1]
            at = max(at - 1, 1)
    return vectors
