"""Points 1.1 to 1.3: lines, their heights, and whether they are near points."""

import unittest
from fractions import Fraction
from math import ceil, floor, gcd

from fewestlines.lines import ceiling_at, floor_at, is_near, line_fits, reduced

BIG = 10 ** 18


class Reduced(unittest.TestCase):
    def test_common_divisors_are_divided_out(self):
        self.assertEqual(reduced((4, 6, 2)), (2, 3, 1))
        self.assertEqual(reduced((6, 9, 15)), (2, 3, 5))
        self.assertEqual(reduced((30, 42, 70)), (15, 21, 35))

    def test_lines_that_are_reduced_stay(self):
        for line in [(1, 1, 1), (2, 3, 4), (6, 10, 15), (0, 0, 1), (-3, 0, 2), (0, 1, 7)]:
            self.assertEqual(reduced(line), line)

    def test_numbers_below_and_equal_to_zero(self):
        self.assertEqual(reduced((-4, -6, 2)), (-2, -3, 1))
        self.assertEqual(reduced((-4, 6, 8)), (-2, 3, 4))
        self.assertEqual(reduced((0, 0, 9)), (0, 0, 1))
        self.assertEqual(reduced((0, -6, 4)), (0, -3, 2))
        self.assertEqual(reduced((5, 0, 10)), (1, 0, 2))

    def test_large_numbers(self):
        self.assertEqual(reduced((BIG, -BIG, BIG)), (1, -1, 1))
        self.assertEqual(reduced((BIG, BIG - 1, BIG)), (BIG, BIG - 1, BIG))
        large = 999999999999999989
        self.assertEqual(reduced((-2 * large, 0, 3 * large)), (-2, 0, 3))

    def test_same_heights_and_no_common_divisor(self):
        for p in range(-6, 7):
            for q in range(-6, 7):
                for d in range(1, 8):
                    a, b, c = reduced((p, q, d))
                    self.assertEqual(gcd(a, b, c), 1)
                    self.assertGreaterEqual(c, 1)
                    for x in (-3, 0, 5):
                        self.assertEqual(Fraction(a * x + b, c), Fraction(p * x + q, d))


class FloorsAndCeilings(unittest.TestCase):
    def test_whole_heights(self):
        self.assertEqual((floor_at((1, 0, 2), 6), ceiling_at((1, 0, 2), 6)), (3, 3))
        self.assertEqual((floor_at((1, 0, 2), -6), ceiling_at((1, 0, 2), -6)), (-3, -3))
        self.assertEqual((floor_at((1, 1, 2), -1), ceiling_at((1, 1, 2), -1)), (0, 0))

    def test_fractional_heights_on_both_sides_of_zero(self):
        self.assertEqual((floor_at((1, 0, 2), 7), ceiling_at((1, 0, 2), 7)), (3, 4))
        self.assertEqual((floor_at((1, 0, 2), -7), ceiling_at((1, 0, 2), -7)), (-4, -3))
        self.assertEqual((floor_at((-1, 0, 3), 1), ceiling_at((-1, 0, 3), 1)), (-1, 0))
        self.assertEqual((floor_at((1, 0, 3), 1), ceiling_at((1, 0, 3), 1)), (0, 1))

    def test_large_numbers(self):
        line = (BIG - 1, 1 - BIG, BIG)
        self.assertEqual(floor_at(line, BIG), BIG - 2)
        self.assertEqual(ceiling_at(line, BIG), BIG - 1)
        self.assertEqual(floor_at(line, -BIG), -BIG)
        self.assertEqual(ceiling_at(line, -BIG), 1 - BIG)

    def test_against_fractions(self):
        for p in range(-5, 6):
            for q in range(-5, 6):
                for d in range(1, 6):
                    for x in range(-4, 5):
                        height = Fraction(p * x + q, d)
                        self.assertEqual(floor_at((p, q, d), x), floor(height))
                        self.assertEqual(ceiling_at((p, q, d), x), ceil(height))


class Nearness(unittest.TestCase):
    def test_exactly_the_error_away_and_beyond(self):
        for line, place, level in [((2, 1, 1), 5, 11), ((2, 1, 1), -5, -9), ((0, 0, 1), 9, 0)]:
            for error in (0, 1, 4, BIG):
                for side in (1, -1):
                    self.assertIs(is_near(line, (place, level + side * error), error), True)
                    self.assertIs(is_near(line, (place, level + side * (error + 1)), error), False)

    def test_fractional_heights(self):
        # The height at 1 is 7 / 3: from 2 it is 1 / 3 away, from 3 it is 2 / 3.
        line = (3, 4, 3)
        self.assertIs(is_near(line, (1, 2), 0), False)
        self.assertIs(is_near(line, (1, 3), 0), False)
        self.assertIs(is_near(line, (1, 2), 1), True)
        self.assertIs(is_near(line, (1, 3), 1), True)
        self.assertIs(is_near(line, (1, 1), 1), False)
        self.assertIs(is_near(line, (1, 4), 1), False)
        self.assertIs(is_near((1, 0, 2), (-3, 1), 2), False)
        self.assertIs(is_near((1, 0, 2), (-3, -3), 2), True)
        self.assertIs(is_near((1, 0, 2), (-3, -4), 2), False)

    def test_no_one_and_many_points(self):
        line = (1, 0, 1)
        self.assertIs(line_fits(line, [], 0), True)
        self.assertIs(line_fits(line, [(4, 4)], 0), True)
        self.assertIs(line_fits(line, [(4, 5)], 0), False)
        points = [(k, k + (-1) ** k * 3) for k in range(-50, 50)]
        self.assertIs(line_fits(line, points, 3), True)
        self.assertIs(line_fits(line, points, 2), False)
        for at in (0, 40, 99):
            place, height = points[at]
            changed = list(points)
            changed[at] = (place, height + (4 if height > place else -4))
            self.assertIs(line_fits(line, changed, 3), False)

    def test_points_stay_as_they_were(self):
        points = [(0, 0), (1, 5), (2, 0)]
        line_fits((0, 0, 1), points, 2)
        self.assertEqual(points, [(0, 0), (1, 5), (2, 0)])


if __name__ == "__main__":
    unittest.main()
