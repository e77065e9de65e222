"""Points 2.2 and 2.4: the Fitter, which takes points one after another."""

import unittest

from fewestlines.hulls import Fitter
from samples import BIG, ascending_lists, errors_for, line_is_within, pairs_fit, point_lists


class Fitters(unittest.TestCase):
    def test_answers_count_and_line_after_each_point(self):
        refused = 0
        for points in point_lists():
            for error in errors_for(points):
                fitter = Fitter(error)
                taken = []
                for point in points:
                    right = pairs_fit(taken + [point], error)
                    self.assertIs(fitter.add(point), right, (points, error, point))
                    if right:
                        taken.append(point)
                    else:
                        refused += 1
                    self.assertEqual(fitter.count, len(taken))
                    self.assertTrue(line_is_within(fitter.line(), taken, error), (points, error))
        self.assertGreater(refused, 500)

    def test_before_the_first_point(self):
        fitter = Fitter(3)
        self.assertEqual(fitter.count, 0)
        self.assertEqual(fitter.line(), (0, 0, 1))

    def test_a_point_that_is_not_taken_changes_nothing(self):
        fitter = Fitter(1)
        for point in [(0, 0), (1, 1), (2, 2)]:
            self.assertIs(fitter.add(point), True)
        before = fitter.line()
        for height in (40, -40, BIG, -BIG):
            self.assertIs(fitter.add((3, height)), False)
            self.assertEqual(fitter.count, 3)
            self.assertEqual(fitter.line(), before)
        self.assertIs(fitter.add((3, 3)), True)
        self.assertEqual(fitter.count, 4)

    def test_exact_bounds(self):
        for error in (0, 1, 6, BIG // 2):
            for side in (1, -1):
                fitter = Fitter(error)
                self.assertIs(fitter.add((0, 0)), True)
                self.assertIs(fitter.add((1, 0)), True)
                self.assertIs(fitter.add((2, side * (4 * error + 1))), False)
                self.assertIs(fitter.add((2, side * 4 * error)), True)

    def test_ascending_heights_have_no_falling_line(self):
        for points in ascending_lists():
            for error in errors_for(points):
                fitter = Fitter(error)
                for point in points:
                    fitter.add(point)
                    if fitter.count > 1:
                        self.assertGreaterEqual(fitter.line()[0], 0, (points, error))

    def test_many_points(self):
        fitter = Fitter(10)
        for place in range(2000):
            self.assertIs(fitter.add((place * 10 ** 14, place * 7 + (place * place) % 11)), True)
        self.assertEqual(fitter.count, 2000)
        self.assertIs(fitter.add((BIG, 0)), False)


if __name__ == "__main__":
    unittest.main()
