"""Points 2.1 to 2.5: whether points fit, their slopes, their lines and reasons."""

import unittest
from fractions import Fraction
from math import gcd

from fewestlines.fits import fits, fitting_line, plain_fits, reason, slope_range, three_fit
from samples import (BIG, ascending_lists, errors_for, line_is_within, pairs_fit, point_lists,
                     slope_bounds)


class ThreePoints(unittest.TestCase):
    def test_exactly_the_bound_and_one_beyond(self):
        # From (0, 0) to (4, 0) the middle point's value is 4 * v, the bound 8 * e.
        for error in (0, 1, 5, 10 ** 17):
            for side in (1, -1):
                one, three = (0, 0), (4, 0)
                self.assertIs(three_fit(one, (1, side * 2 * error), three, error), True)
                self.assertIs(three_fit(one, (1, side * (2 * error + 1)), three, error), False)

    def test_one_beyond_in_the_value(self):
        # (0, 0), (1, v), (3, t) have the value 3 * v - t, the bound 6 * e.
        for error in (0, 1, 2, 9):
            for v in (-7, 0, 11):
                for side in (1, -1):
                    t = 3 * v - side * 6 * error
                    self.assertIs(three_fit((0, 0), (1, v), (3, t), error), True)
                    self.assertIs(three_fit((0, 0), (1, v), (3, t - side), error), False)

    def test_uneven_gaps_and_moved_points(self):
        self.assertIs(three_fit((-5, 10), (-4, 12), (5, 30), 0), True)
        self.assertIs(three_fit((-5, 10), (-4, 13), (5, 30), 0), False)
        self.assertIs(three_fit((-BIG, -BIG), (0, BIG), (BIG, -BIG), BIG), True)
        self.assertIs(three_fit((-BIG, -BIG), (0, BIG), (BIG, -BIG), BIG - 1), False)


class Fitting(unittest.TestCase):
    def test_up_to_two_points_always_fit(self):
        for points in [[], [(3, 4)], [(-BIG, BIG), (1 - BIG, -BIG)]]:
            self.assertIs(fits(points, 0), True)
            self.assertIs(plain_fits(points, 0), True)
            self.assertIsNone(reason(points, 0))

    def test_all_ways_agree(self):
        seen = {True: 0, False: 0}
        for points in point_lists():
            for error in errors_for(points):
                right = pairs_fit(points, error)
                seen[right] += 1
                self.assertIs(fits(points, error), right, (points, error))
                self.assertIs(plain_fits(points, error), right, (points, error))
        self.assertGreater(min(seen.values()), 300)

    def test_slope_ranges(self):
        fractions = 0
        for points in point_lists():
            if len(points) < 2:
                continue
            for error in errors_for(points):
                found = slope_range(points, error)
                self.assertIsInstance(found, tuple)
                for (rise, run), bound in zip(found, slope_bounds(points, error)):
                    self.assertGreaterEqual(run, 1)
                    self.assertEqual(gcd(rise, run), 1)
                    self.assertEqual(Fraction(rise, run), bound, (points, error))
                    fractions += run > 1
        self.assertGreater(fractions, 100)

    def test_slope_range_of_points_that_do_not_fit(self):
        self.assertEqual(slope_range([(0, 0), (2, 5), (4, 0)], 1), ((3, 2), (-3, 2)))
        self.assertEqual(slope_range([(0, 0), (2, 0)], 0), ((0, 1), (0, 1)))
        self.assertEqual(slope_range([(0, 0), (4, 6)], 1), ((1, 1), (2, 1)))

    def test_many_points(self):
        points = [(k, k * k) for k in range(2000)]
        self.assertIs(fits(points, 2 * 249750), True)
        self.assertIs(fits(points, 499500 - 1), False)
        self.assertIs(fits(points, 499500), True)
        self.assertEqual(slope_range(points, 0), ((3997, 1), (1, 1)))


class FittingLines(unittest.TestCase):
    def test_line_fits_or_is_none(self):
        for points in point_lists() + ascending_lists():
            for error in errors_for(points):
                line = fitting_line(points, error)
                if pairs_fit(points, error):
                    self.assertTrue(line_is_within(line, points, error), (points, error, line))
                    self.assertTrue(all(isinstance(number, int) for number in line))
                else:
                    self.assertIsNone(line, (points, error))

    def test_no_points(self):
        self.assertEqual(fitting_line([], 0), (0, 0, 1))
        self.assertEqual(fitting_line([], 5), (0, 0, 1))

    def test_ascending_heights_have_no_falling_line(self):
        for points in ascending_lists():
            for error in errors_for(points):
                line = fitting_line(points, error)
                if line is not None:
                    self.assertGreaterEqual(line[0], 0, (points, error))

    def test_ascending_heights_with_an_error_for_falling_lines(self):
        points = [(k, 2 * k) for k in range(10)]
        self.assertTrue(line_is_within((-1, 13, 1), points, 100))
        self.assertGreaterEqual(fitting_line(points, 100)[0], 0)
        self.assertGreaterEqual(fitting_line(points, BIG)[0], 0)


class Reasons(unittest.TestCase):
    def test_reason_or_none(self):
        for points in point_lists():
            for error in errors_for(points):
                why = reason(points, error)
                if pairs_fit(points, error):
                    self.assertIsNone(why, (points, error))
                    continue
                self.assertIsInstance(why, tuple)
                first, middle, last = why
                self.assertTrue(0 <= first < middle < last < len(points), why)
                self.assertFalse(pairs_fit([points[k] for k in why], error), (points, error, why))


class Arguments(unittest.TestCase):
    def test_points_stay_as_they_were(self):
        points = [(0, 0), (1, 9), (2, 0), (3, 4)]
        for function in (fits, plain_fits, slope_range, fitting_line, reason):
            for error in (0, 9):
                function(points, error)
                self.assertEqual(points, [(0, 0), (1, 9), (2, 0), (3, 4)])


if __name__ == "__main__":
    unittest.main()
