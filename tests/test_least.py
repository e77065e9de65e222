"""Points 4.1 and 4.2: least errors for numbers of pieces, and the staircase."""

import random
import unittest

from fewestlines.cuttings import cut
from fewestlines.least import least_error, staircase
from samples import BIG, greedy_starts, point_lists, scattered


def count(points, error):
    """The number of pieces of the cut."""
    return len(cut(points, error).pieces)


def plain_staircase(points):
    """The staircase, by trying each error from 0 on."""
    steps = [(0, len(greedy_starts(points, 0)))]
    error = 0
    while steps[-1][1] > 1:
        error += 1
        pieces = len(greedy_starts(points, error))
        if pieces < steps[-1][1]:
            steps.append((error, pieces))
    return steps


class LeastErrors(unittest.TestCase):
    def check(self, points, pieces):
        error = least_error(points, pieces)
        self.assertGreaterEqual(error, 0)
        self.assertLessEqual(count(points, error), pieces, (points, pieces))
        if error > 0:
            self.assertGreater(count(points, error - 1), pieces, (points, pieces))

    def test_the_cut_with_it_and_with_one_less(self):
        for points in point_lists():
            for pieces in range(1, len(points) + 3):
                self.check(points, pieces)

    def test_no_points(self):
        for pieces in (1, 2, 50):
            self.assertEqual(least_error([], pieces), 0)

    def test_known_errors(self):
        points = [(0, 0), (1, 5), (2, 0), (3, 0)]
        self.assertEqual([least_error(points, pieces) for pieces in (1, 2, 3, 4, 9)], [3, 0, 0, 0, 0])
        points = [(-BIG, -BIG), (0, BIG), (BIG, -BIG)]
        self.assertEqual(least_error(points, 1), BIG)
        self.assertEqual(least_error(points, 2), 0)

    def test_two_thousand_points(self):
        draw = random.Random(40)
        points = [(k * 10 ** 14, draw.randint(-BIG, BIG)) for k in range(2000)]
        for pieces in (1, 2, 60, 700, 999, 1000, 3000):
            self.check(points, pieces)

    def test_points_stay_as_they_were(self):
        points = [(0, 0), (1, 5), (2, 0), (3, 8)]
        least_error(points, 1)
        staircase(points)
        self.assertEqual(points, [(0, 0), (1, 5), (2, 0), (3, 8)])


class Staircases(unittest.TestCase):
    def check(self, points):
        steps = staircase(points)
        self.assertEqual(steps[0], (0, count(points, 0)))
        self.assertEqual(steps[-1][1], 1)
        for (error, pieces), (greater, fewer) in zip(steps, steps[1:]):
            self.assertLess(error, greater)
            self.assertGreater(pieces, fewer)
            self.assertEqual(count(points, greater), fewer)
            self.assertEqual(count(points, greater - 1), pieces)

    def test_no_points_and_straight_points(self):
        self.assertEqual(staircase([]), [(0, 0)])
        self.assertEqual(staircase([(4, 4)]), [(0, 1)])
        self.assertEqual(staircase([(4, 4), (9, -3)]), [(0, 1)])
        self.assertEqual(staircase([(k, -3 * k) for k in range(30)]), [(0, 1)])

    def test_each_step_is_the_least_error_for_its_number(self):
        for points in point_lists():
            if points:
                self.check(points)
                for error, pieces in staircase(points):
                    self.assertEqual(least_error(points, pieces), error)

    def test_trying_each_error(self):
        draw = random.Random(41)
        longest = 0
        for size in range(1, 30):
            points = scattered(draw, size, 4, 25)
            steps = staircase(points)
            self.assertEqual(steps, plain_staircase(points))
            longest = max(longest, len(steps))
        self.assertGreater(longest, 6)

    def test_two_thousand_points(self):
        draw = random.Random(42)
        self.check([(k, k * k) for k in range(2000)])
        points = [(k * 10 ** 14, draw.randint(-BIG, BIG)) for k in range(2000)]
        steps = staircase(points)
        self.assertEqual((steps[0], steps[-1][1]), ((0, 1000), 1))
        for at in (1, 2, 100, len(steps) // 2, len(steps) - 2, len(steps) - 1):
            error, pieces = steps[at]
            self.assertEqual(count(points, error), pieces)
            self.assertEqual(count(points, error - 1), steps[at - 1][1])

    def test_lists_are_new(self):
        points = [(0, 0), (1, 5), (2, 0), (3, 8)]
        first = staircase(points)
        kept = list(first)
        first.clear()
        self.assertEqual(staircase(points), kept)
        staircase([]).clear()
        self.assertEqual(staircase([]), [(0, 0)])


if __name__ == "__main__":
    unittest.main()
