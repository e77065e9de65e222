"""Points 12.1 to 12.3: outlines, their bounds, and floor sums."""

import random
import unittest
from fractions import Fraction
from math import floor

from fewestlines.sums import Outline, floor_sum
from samples import BIG, greedy_starts, line_is_within, value_lists


def plain_sum(count, p, q, d):
    """The floor sum, one by one."""
    return sum((p * k + q) // d for k in range(count))


def floors_of(outline):
    """The floors of the lines at all indexes, by fractions."""
    floors = []
    for at, (start, (p, q, d)) in enumerate(outline.pieces):
        end = outline.pieces[at + 1][0] if at + 1 < len(outline.pieces) else outline.length
        floors += [floor(Fraction(p * index + q, d)) for index in range(start, end)]
    return floors


def ranges(length):
    """All (a, b) with 0 <= a <= b <= length."""
    return [(a, b) for b in range(length + 1) for a in range(b + 1)]


class FloorSums(unittest.TestCase):
    def test_small_numbers_one_by_one(self):
        for d in range(1, 8):
            for p in range(-17, 18):
                for q in (-25, -8, -7, -1, 0, 1, 6, 7, 8, 30):
                    for count in (0, 1, 2, 3, 10, 23):
                        self.assertEqual(floor_sum(count, p, q, d), plain_sum(count, p, q, d), (count, p, q, d))

    def test_count_zero(self):
        for p, q, d in [(0, 0, 1), (5, 7, 3), (-BIG, -BIG, 1), (BIG, 1, BIG)]:
            self.assertEqual(floor_sum(0, p, q, d), 0)

    def test_large_numbers_one_by_one(self):
        draw = random.Random(120)
        for size in (10 ** 6, BIG, 10 ** 40):
            for _ in range(60):
                p, q, d = draw.randint(-size, size), draw.randint(-size, size), draw.randint(1, size)
                for count in (1, 2, 57):
                    self.assertEqual(floor_sum(count, p, q, d), plain_sum(count, p, q, d))
                    self.assertEqual(floor_sum(count, p, q, d % 1000 + 1), plain_sum(count, p, q, d % 1000 + 1))

    def test_whole_lines(self):
        count = 10 ** 9
        self.assertEqual(floor_sum(count, 0, 5, 1), 5 * count)
        self.assertEqual(floor_sum(count, 1, 0, 1), count * (count - 1) // 2)
        self.assertEqual(floor_sum(count, -3, 7, 1), 7 * count - 3 * (count * (count - 1) // 2))
        self.assertEqual(floor_sum(count, 0, -1, 2), -count)
        self.assertEqual(floor_sum(count, 1, 0, count), 0)
        self.assertEqual(floor_sum(count, 1, 1, count), 1)
        self.assertEqual(floor_sum(count, -1, 0, count), 1 - count)

    def test_parts_add_up(self):
        draw = random.Random(121)
        count = 10 ** 9
        for _ in range(200):
            p, q = draw.randint(-BIG, BIG), draw.randint(-BIG, BIG)
            d = draw.choice([1, 2, 10 ** 9 + 7, BIG, draw.randint(1, BIG)])
            whole = floor_sum(count, p, q, d)
            for first in (0, 1, 999, draw.randint(0, count), count - 7, count):
                rest = floor_sum(count - first, p, p * first + q, d)
                self.assertEqual(floor_sum(first, p, q, d) + rest, whole)
            self.assertEqual(floor_sum(count + 1, p, q, d), whole + (p * count + q) // d)


class Outlines(unittest.TestCase):
    def outlines(self):
        """Pairs of values and an outline of them."""
        for values in value_lists():
            for error in (0, 1, 3, 20, BIG):
                yield values, Outline(values, error)

    def test_fields_and_pieces(self):
        several = 0
        for values, outline in self.outlines():
            self.assertEqual(outline.length, len(values))
            points = list(enumerate(values))
            starts = [start for start, _ in outline.pieces]
            self.assertEqual(starts, greedy_starts(points, outline.error))
            for (start, line), end in zip(outline.pieces, starts[1:] + [len(values)]):
                self.assertTrue(line_is_within(line, points[start:end], outline.error))
            several += len(starts) > 2
        self.assertGreater(several, 50)
        self.assertEqual(Outline([5], 3).error, 3)

    def test_bounds_of_each_value(self):
        for values, outline in self.outlines():
            for index, height in enumerate(floors_of(outline)):
                low, high = outline.value_bounds(index)
                self.assertEqual((low, high), (height - outline.error, height + outline.error))
                self.assertTrue(low <= values[index] <= high)

    def test_bounds_of_sums_and_of_least_and_greatest_values(self):
        for values, outline in self.outlines():
            floors = floors_of(outline)
            error = outline.error
            for a, b in ranges(len(values)):
                low, high = outline.sum_bounds(a, b)
                middle = sum(floors[a:b])
                self.assertEqual((low, high), (middle - error * (b - a), middle + error * (b - a)))
                self.assertTrue(low <= sum(values[a:b]) <= high)
                if a == b:
                    self.assertEqual((low, high), (0, 0))
                    self.assertIsNone(outline.least_bounds(a, b))
                    self.assertIsNone(outline.greatest_bounds(a, b))
                    continue
                least, greatest = min(floors[a:b]), max(floors[a:b])
                self.assertEqual(outline.least_bounds(a, b), (least - error, least + error))
                self.assertEqual(outline.greatest_bounds(a, b), (greatest - error, greatest + error))
                self.assertTrue(least - error <= min(values[a:b]) <= least + error)
                self.assertTrue(greatest - error <= max(values[a:b]) <= greatest + error)

    def test_kinds_of_answers(self):
        outline = Outline([1, 5, 9, 0], 1)
        for answer in (outline.value_bounds(0), outline.sum_bounds(1, 3), outline.least_bounds(0, 2),
                       outline.greatest_bounds(0, 4)):
            self.assertIsInstance(answer, tuple)
            self.assertEqual([type(bound) for bound in answer], [int, int])

    def test_known_bounds(self):
        outline = Outline([0, 10, 20, 30, 7, 7, 7], 0)
        self.assertEqual(outline.value_bounds(2), (20, 20))
        self.assertEqual(outline.sum_bounds(0, 7), (81, 81))
        self.assertEqual(outline.sum_bounds(2, 5), (57, 57))
        self.assertEqual(outline.least_bounds(1, 6), (7, 7))
        self.assertEqual(outline.greatest_bounds(1, 6), (30, 30))
        outline = Outline([3, 7], 5)
        low, high = outline.sum_bounds(0, 2)
        self.assertEqual(high - low, 20)

    def test_above_a_limit(self):
        for values, outline in self.outlines():
            floors = floors_of(outline)
            error = outline.error
            limits = {0, -BIG, BIG}
            for height in floors[:4]:
                limits |= {height + beside + side for beside in (-1, 0, 1) for side in (-error, error)}
            for a, b in ranges(len(values))[::5] + [(0, len(values))]:
                for limit in limits:
                    surely = [k for k in range(a, b) if floors[k] - error > limit]
                    perhaps = [k for k in range(a, b) if floors[k] + error > limit]
                    self.assertEqual(outline.surely_above(a, b, limit), surely)
                    self.assertEqual(outline.perhaps_above(a, b, limit), perhaps)
                    real = [k for k in range(a, b) if values[k] > limit]
                    self.assertLessEqual(set(surely), set(real))
                    self.assertLessEqual(set(real), set(perhaps))

    def test_limits_equal_to_a_bound(self):
        outline = Outline([4, 4, 4], 2)
        for low, high in [outline.value_bounds(1)]:
            self.assertEqual(outline.surely_above(0, 3, low), [])
            self.assertEqual(outline.surely_above(0, 3, low - 1), [0, 1, 2])
            self.assertEqual(outline.perhaps_above(0, 3, high), [])
            self.assertEqual(outline.perhaps_above(0, 3, high - 1), [0, 1, 2])
            self.assertEqual(outline.perhaps_above(1, 2, high - 1), [1])
            self.assertEqual(outline.surely_above(2, 2, -BIG), [])
            self.assertEqual(outline.perhaps_above(0, 0, -BIG), [])

    def test_no_values(self):
        outline = Outline([], 4)
        self.assertEqual((outline.error, outline.length, outline.pieces), (4, 0, []))
        self.assertEqual(outline.sum_bounds(0, 0), (0, 0))
        self.assertIsNone(outline.least_bounds(0, 0))
        self.assertIsNone(outline.greatest_bounds(0, 0))
        self.assertEqual(outline.surely_above(0, 0, -5), [])
        self.assertEqual(outline.perhaps_above(0, 0, -5), [])

    def test_two_thousand_values(self):
        draw = random.Random(122)
        values = [k * k * 10 ** 11 + draw.randint(-10 ** 9, 10 ** 9) for k in range(2000)]
        outline = Outline(values, 10 ** 14)
        floors = floors_of(outline)
        for a, b in [(0, 2000), (1, 1999), (700, 701), (3, 1500)]:
            self.assertEqual(sum(outline.sum_bounds(a, b)), 2 * sum(floors[a:b]))
            self.assertEqual(sum(outline.least_bounds(a, b)), 2 * min(floors[a:b]))
            self.assertEqual(sum(outline.greatest_bounds(a, b)), 2 * max(floors[a:b]))

    def test_values_stay_and_lists_are_new(self):
        values = [1, 5, 9, 0]
        outline = Outline(values, 0)
        outline.surely_above(0, 4, 0).clear()
        outline.perhaps_above(0, 4, 0).clear()
        self.assertEqual(outline.surely_above(0, 4, 0), [0, 1, 2])
        self.assertEqual(values, [1, 5, 9, 0])
        values.append(7)
        self.assertEqual((outline.length, outline.sum_bounds(0, 4)), (4, (15, 15)))


if __name__ == "__main__":
    unittest.main()
