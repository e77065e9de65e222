"""Points 13.1 and 13.2: pieces that are added, scaled, cut out and repeated."""

import random
import unittest
from fractions import Fraction
from math import gcd

from fewestlines.combine import added, part_of, repeated, scaled
from fewestlines.cuttings import cut
from samples import BIG


def heights(pieces, length):
    """The heights at all indexes of a list of the length."""
    found = []
    for at, (start, (p, q, d)) in enumerate(pieces):
        end = pieces[at + 1][0] if at + 1 < len(pieces) else length
        found += [Fraction(p * index + q, d) for index in range(start, end)]
    return found


def starts(pieces):
    """The starts of the pieces."""
    return [start for start, _ in pieces]


def piece_lists():
    """Pairs of a length and pieces of a list of that length."""
    draw = random.Random(130)
    found = [(1, [(0, (0, 0, 1))]), (6, [(0, (4, -2, 6))]), (5, [(0, (0, 0, 7)), (4, (-6, 9, 3))]),
             (3, [(0, (BIG, -BIG, 1)), (1, (-1, 1, BIG)), (2, (2, 2, 2))])]
    for length in (1, 2, 5, 8, 13):
        for _ in range(6):
            chosen = [0] + [k for k in range(1, length) if draw.random() < 0.4]
            found.append((length, [(k, (draw.randint(-9, 9), draw.randint(-40, 40), draw.randint(1, 6)))
                                   for k in chosen]))
    return found


class Combining(unittest.TestCase):
    def check(self, pieces, length, right):
        """Whether the pieces are well made and have the heights that are right."""
        self.assertIsInstance(pieces, list)
        found = starts(pieces)
        self.assertEqual(found, sorted(set(found)))
        for _, (p, q, d) in pieces:
            self.assertGreaterEqual(d, 1)
            self.assertEqual(gcd(gcd(p, q), d), 1, (p, q, d))
        self.assertEqual(heights(pieces, length), right)


class Added(Combining):
    def test_heights_and_starts(self):
        for length, one in piece_lists():
            for other_length, other in piece_lists():
                if length != other_length:
                    continue
                total = added(one, other)
                self.assertEqual(starts(total), sorted(set(starts(one) + starts(other))))
                right = [a + b for a, b in zip(heights(one, length), heights(other, length))]
                self.check(total, length, right)

    def test_known_sum(self):
        one = [(0, (1, 0, 2)), (3, (0, 5, 1))]
        other = [(0, (1, 0, 2)), (2, (1, 0, 3)), (3, (0, -5, 1))]
        self.assertEqual(added(one, other), [(0, (1, 0, 1)), (2, (5, 0, 6)), (3, (0, 0, 1))])
        self.assertEqual(added([(0, (2, 4, 2))], [(0, (0, 0, 9))]), [(0, (1, 2, 1))])

    def test_many_pieces(self):
        one = [(k, (k, 1, 2)) for k in range(0, 2000, 2)]
        other = [(0, (1, 1, 1))] + [(k, (-k, 0, 3)) for k in range(1, 2000, 2)]
        right = [a + b for a, b in zip(heights(one, 2000), heights(other, 2000))]
        self.check(added(one, other), 2000, right)


class Scaled(Combining):
    def test_heights_and_starts(self):
        for length, pieces in piece_lists():
            for factor in (-1000, -3, -1, 0, 1, 2, 6, 1000):
                found = scaled(pieces, factor)
                self.assertEqual(starts(found), starts(pieces))
                self.check(found, length, [factor * height for height in heights(pieces, length)])

    def test_known_answers(self):
        self.assertEqual(scaled([(0, (1, 3, 6)), (4, (-2, 0, 4))], 2), [(0, (1, 3, 3)), (4, (-1, 0, 1))])
        self.assertEqual(scaled([(0, (1, 3, 6)), (4, (-2, 0, 4))], 0), [(0, (0, 0, 1)), (4, (0, 0, 1))])
        self.assertEqual(scaled([(0, (1, 3, 6))], -2), [(0, (-1, -3, 3))])
        self.assertEqual(scaled([(0, (2, 4, 6))], 1), [(0, (1, 2, 3))])


class Parts(Combining):
    def test_all_parts(self):
        for length, pieces in piece_lists():
            whole = heights(pieces, length)
            for a in range(length + 2):
                for b in range(length + 1):
                    found = part_of(pieces, a, b)
                    if a >= b:
                        self.assertEqual(found, [])
                        continue
                    inner = [start - a for start in starts(pieces) if a < start < b]
                    self.assertEqual(starts(found), [0] + inner)
                    self.check(found, b - a, whole[a:b])

    def test_at_a_start_and_beside_it(self):
        pieces = [(0, (1, 0, 1)), (3, (0, 9, 1)), (5, (2, -10, 2))]
        self.assertEqual(part_of(pieces, 0, 8), [(0, (1, 0, 1)), (3, (0, 9, 1)), (5, (1, -5, 1))])
        self.assertEqual(part_of(pieces, 3, 5), [(0, (0, 9, 1))])
        self.assertEqual(part_of(pieces, 2, 6), [(0, (1, 2, 1)), (1, (0, 9, 1)), (3, (1, -3, 1))])
        self.assertEqual(part_of(pieces, 4, 5), [(0, (0, 9, 1))])
        self.assertEqual(part_of(pieces, 5, 6), [(0, (1, 0, 1))])
        self.assertEqual(part_of(pieces, 7, 8), [(0, (1, 2, 1))])
        for a, b in [(0, 0), (3, 3), (4, 3), (8, 8), (9, 2), (5, 0)]:
            self.assertEqual(part_of(pieces, a, b), [])


class Repeated(Combining):
    def test_heights_and_starts(self):
        for length, pieces in piece_lists():
            for times in (0, 1, 2, 5):
                found = repeated(pieces, length, times)
                right = [start + length * time for time in range(times) for start in starts(pieces)]
                self.assertEqual(starts(found), right)
                self.check(found, length * times, heights(pieces, length) * times)

    def test_known_answers(self):
        pieces = [(0, (2, 0, 2)), (3, (0, 9, 1))]
        self.assertEqual(repeated(pieces, 4, 0), [])
        self.assertEqual(repeated(pieces, 4, 1), [(0, (1, 0, 1)), (3, (0, 9, 1))])
        self.assertEqual(repeated(pieces, 4, 2),
                         [(0, (1, 0, 1)), (3, (0, 9, 1)), (4, (1, -4, 1)), (7, (0, 9, 1))])
        self.assertEqual(repeated([(0, (1, 0, 3))], 1, 3), [(0, (1, 0, 3)), (1, (1, -1, 3)), (2, (1, -2, 3))])

    def test_a_hundred_times(self):
        pieces = [(k, (k, -3, 2)) for k in range(50)]
        self.check(repeated(pieces, 50, 100), 5000, heights(pieces, 50) * 100)


class Errors(unittest.TestCase):
    def test_errors_of_sums_and_of_scaled_lists(self):
        draw = random.Random(131)
        for spread in (3, 30, BIG):
            one = [draw.randint(-spread, spread) for _ in range(30)]
            other = [draw.randint(-spread, spread) for _ in range(30)]
            for e, f in ((0, 0), (2, 0), (1, 9), (spread, spread // 2)):
                first, second = cut(list(enumerate(one)), e).pieces, cut(list(enumerate(other)), f).pieces
                for height, a, b in zip(heights(added(first, second), 30), one, other):
                    self.assertLessEqual(abs(height - a - b), e + f)
                for factor in (-7, -1, 0, 1, 12):
                    for height, a in zip(heights(scaled(first, factor), 30), one):
                        self.assertLessEqual(abs(height - factor * a), abs(factor) * e)


class Arguments(unittest.TestCase):
    def test_pieces_stay_and_lists_are_new(self):
        one = [(0, (2, 0, 2)), (3, (0, 9, 3))]
        other = [(0, (4, 4, 4)), (1, (0, 0, 5))]
        for answer in (added(one, other), scaled(one, 1), scaled(one, 5), part_of(one, 0, 5), part_of(one, 1, 4),
                       repeated(one, 5, 1), repeated(one, 5, 3)):
            self.assertIsNot(answer, one)
            answer.clear()
        self.assertEqual(one, [(0, (2, 0, 2)), (3, (0, 9, 3))])
        self.assertEqual(other, [(0, (4, 4, 4)), (1, (0, 0, 5))])


if __name__ == "__main__":
    unittest.main()
