"""Behind promise [38]: vectors are made short without leaving the sums that they have."""

import unittest
from fractions import Fraction

from drawarms.columns import barring_weights, multiples_for
from drawarms.lattices import short_base, shortened
from tests.support import BIG, Samples


def dot(vector, other):
    return sum(number * beside for number, beside in zip(vector, other))


def upright_parts(vectors):
    """What is new in each vector, and how often this is in each later one."""
    news, many = [], []
    for vector in vectors:
        along = [Fraction(dot(vector, new)) / dot(new, new) if any(new) else Fraction(0) for new in news]
        many.append(along)
        news.append([Fraction(number) - sum(times * new[at] for times, new in zip(along, news)) for at, number in enumerate(vector)])
    return news, many


def written(vector, vectors):
    """How often vectors are in a sum of them; None if it is none."""
    news, many = upright_parts(vectors + [vector])
    if any(news[-1]):
        return None
    times, along = [], list(many[-1])
    for at in range(len(vectors) - 1, -1, -1):
        times.append(along[at])
        along = [number - times[-1] * beside for number, beside in zip(along, many[at] + [1])][:at]
    return times[::-1]


def sample_vectors(samples, many, length, size):
    while True:
        vectors = [[samples.whole(size) for _ in range(length)] for _ in range(many)]
        if all(any(new) for new in upright_parts(vectors)[0]):
            return vectors


class Lattices(unittest.TestCase):
    def test_short_bases(self):
        samples = Samples(290)
        for _ in range(80):
            length = samples.choice((1, 2, 3, 4, 6))
            vectors = sample_vectors(samples, samples.choice(range(1, length + 1)), length, samples.choice((1, 5, 900, BIG)))
            base = short_base(vectors)
            self.assertEqual(len(base), len(vectors))
            for first, second in ((base, vectors), (vectors, base)):
                for vector in first:
                    self.assertTrue(all(number.denominator == 1 for number in written(vector, second)))
            news, many = upright_parts(base)
            self.assertTrue(all(abs(number) <= Fraction(1, 2) for along in many for number in along))
            for at in range(1, len(base)):
                self.assertGreaterEqual(dot(news[at], news[at]), (Fraction(3, 4) - many[at][at - 1] ** 2) * dot(news[at - 1], news[at - 1]))

    def test_shortened(self):
        samples = Samples(291)
        for _ in range(80):
            length = samples.choice((2, 3, 5))
            vectors = short_base(sample_vectors(samples, length - 1, length, samples.choice((3, 90))))
            vector = [samples.whole(5000) for _ in range(length)]
            made = shortened(vector, vectors)
            self.assertTrue(all(number.denominator == 1 for number in
                written([number - beside for number, beside in zip(vector, made)], vectors)))
            self.assertTrue(all(abs(number) <= Fraction(1, 2) for number in upright_parts(vectors + [made])[1][-1]))
        self.assertEqual((shortened([7, 8], []), short_base([])), ([7, 8], []))

    def test_columns(self):
        samples = Samples(292)
        found = []
        for _ in range(300):
            rows, many = samples.choice((1, 2, 3, 4)), samples.choice((1, 2, 3, 5))
            columns = [[samples.whole(4) for _ in range(rows)] for _ in range(many)]
            goal = [samples.whole(6) for _ in range(rows)]
            if samples.whole() > 4:
                goal = [sum(column[row] * (at - 1) for at, column in enumerate(columns)) for row in range(rows)]
            told, barred = multiples_for(columns, goal, many), barring_weights(columns, goal)
            self.assertEqual(told is None, barred is not None)
            found.append(told is None)
            if told is not None:
                self.assertEqual([sum(times * column[row] for times, column in zip(told, columns)) for row in range(rows)], goal)
            else:
                weights, number = barred
                self.assertGreaterEqual(number, 2)
                self.assertTrue(all(dot(weights, column) % number == 0 for column in columns))
                self.assertNotEqual(dot(weights, goal) % number, 0)
        self.assertGreater(min(found.count(True), found.count(False)), 80)


if __name__ == "__main__":
    unittest.main()
