"""Points 0.2 and 3.1 to 3.5: the cut of points, its judge, and the least number of pieces."""

import random
import unittest

from fewestlines.cuttings import Cutting, cut, judge, least_count
from samples import (BIG, errors_for, fewest_pieces, greedy_starts, line_is_within, pairs_fit,
                     point_lists, scattered, with_item)

# For the error 0 the pieces of these points are those from 0, 3 and 6 on.
POINTS = [(0, 0), (1, 1), (2, 2), (3, 10), (4, 12), (5, 14), (6, 0), (7, 0)]
PIECES = [(0, (1, 0, 1)), (3, (2, 4, 1)), (6, (0, 0, 1))]
REASONS = [(1, 2, 3), (4, 5, 6)]


def judged(pieces, reasons, points=POINTS, error=0):
    """The judge's answer to a cutting of the points."""
    return judge(points, error, Cutting(pieces, reasons))


class Cuttings(unittest.TestCase):
    def test_lists_are_copied(self):
        pieces, reasons = list(PIECES), list(REASONS)
        cutting = Cutting(pieces, reasons)
        self.assertEqual((cutting.pieces, cutting.reasons), (PIECES, REASONS))
        pieces.append((9, (0, 0, 1)))
        reasons.clear()
        self.assertEqual((cutting.pieces, cutting.reasons), (PIECES, REASONS))


class Cuts(unittest.TestCase):
    def check(self, points, error):
        cutting = cut(points, error)
        starts = [start for start, _ in cutting.pieces]
        self.assertEqual(starts, greedy_starts(points, error), (points, error))
        self.assertIs(judge(points, error, cutting), True, (points, error))
        ends = starts[1:] + [len(points)]
        for (start, line), end in zip(cutting.pieces, ends):
            self.assertTrue(line_is_within(line, points[start:end], error))
        return cutting

    def test_starts_are_those_of_the_longest_pieces(self):
        several = 0
        for points in point_lists():
            for error in errors_for(points):
                several += len(self.check(points, error).pieces) > 2
        self.assertGreater(several, 100)

    def test_none_one_and_two_points(self):
        for error in (0, 5, BIG):
            cutting = self.check([], error)
            self.assertEqual((cutting.pieces, cutting.reasons), ([], []))
            for points in [[(-7, 3)], [(-BIG, -BIG), (BIG, BIG)]]:
                cutting = self.check(points, error)
                self.assertEqual((len(cutting.pieces), cutting.reasons), (1, []))

    def test_longer_lists(self):
        draw = random.Random(30)
        for gap in (1, 10 ** 9):
            for spread in (2, 10, 1000):
                points = scattered(draw, 120, gap, spread)
                for error in (0, 1, 3, 9, 300):
                    self.check(points, error)

    def test_two_thousand_points(self):
        draw = random.Random(31)
        points = [(k * 10 ** 14, draw.randint(-BIG, BIG)) for k in range(2000)]
        for error, most in ((0, 1000), (10 ** 17, 1000), (9 * 10 ** 17, 400), (BIG, 1)):
            cutting = cut(points, error)
            self.assertLessEqual(len(cutting.pieces), most)
            self.assertIs(judge(points, error, cutting), True)

    def test_points_stay_and_lists_are_new(self):
        points = list(POINTS)
        first = cut(points, 0)
        first.pieces.clear()
        first.reasons.clear()
        second = cut(points, 0)
        self.assertEqual(points, POINTS)
        self.assertEqual([start for start, _ in second.pieces], [0, 3, 6])
        judge(points, 0, second)
        least_count(points, 0)
        self.assertEqual(points, POINTS)
        self.assertEqual(len(second.pieces), 3)


class Judging(unittest.TestCase):
    def test_right_cuttings(self):
        self.assertIs(judged(PIECES, REASONS), True)
        self.assertIs(judged([], [], []), True)
        self.assertIs(judged([(0, (2, 6, 2))], [], [(1, 4)]), True)

    def test_reasons_up_to_the_next_start(self):
        for why in [(0, 1, 3), (0, 2, 3), (1, 2, 3)]:
            self.assertIs(judged(PIECES, [why, REASONS[1]]), True)
        for why in [(3, 4, 6), (3, 5, 6), (4, 5, 6)]:
            self.assertIs(judged(PIECES, [REASONS[0], why]), True)

    def test_wrong_starts(self):
        for at, wrong in [(0, 1), (0, -1), (0, 3), (1, 0), (1, -3), (1, 6), (1, 7), (2, 3), (2, 2),
                          (2, 8), (2, 9), (2, -2), (2, BIG), (0, -BIG)]:
            pieces = with_item(PIECES, at, (wrong, PIECES[at][1]))
            self.assertIs(judged(pieces, REASONS), False, pieces)

    def test_starts_alone_decide(self):
        # All points are on one line, so lines and reasons cannot be what is wrong.
        level = (0, 0, 1)
        points = [(k, 0) for k in range(4)]
        self.assertIs(judged([(0, level)], [], points), True)
        for start in (-1, -4, 1, 3, 4, 5):
            self.assertIs(judged([(start, level)], [], points), False, start)
        # The start of the last piece is behind the points, or that of the first again.
        bent = [(0, 0), (1, 1), (2, 0)]
        self.assertIs(judged([(0, (1, 0, 1)), (2, level)], [(0, 1, 2)], bent), True)
        self.assertIs(judged([(0, (1, 0, 1)), (3, level)], [(0, 1, 2)], bent), False)
        self.assertIs(judged([(0, level), (0, level)], [(0, 1, 2)], bent), False)

    def test_a_start_behind_the_points_with_a_reason_up_to_it(self):
        level = (0, 0, 1)
        for length in (2, 3, 4):
            points = [(k, 0) for k in range(length)]
            for start in (length, length + 1, BIG):
                self.assertIs(judged([(0, level), (start, level)], [(0, 1, start)], points), False)
                pieces = [(0, level), (start, level), (1, level)]
                self.assertIs(judged(pieces, [(0, 1, start), (0, 1, start)], points), False)

    def test_first_start_that_is_not_zero(self):
        points = [(0, 50)] + [(k + 1, height) for k, (_, height) in enumerate(POINTS)]
        pieces = [(start + 1, (p, q - p, d)) for start, (p, q, d) in PIECES]
        reasons = [(a + 1, b + 1, c + 1) for a, b, c in REASONS]
        self.assertIs(judged(pieces, reasons, points), False)
        self.assertIs(judged([(-1, PIECES[0][1])] + PIECES[1:], REASONS), False)

    def test_pieces_without_points_and_points_without_pieces(self):
        self.assertIs(judged([(0, (0, 0, 1))], [], []), False)
        self.assertIs(judged([], [], [(0, 0)]), False)
        self.assertIs(judged([], [], POINTS), False)
        self.assertIs(judged([], [(0, 1, 2)], []), False)

    def test_wrong_lines(self):
        for at, (start, (p, q, d)) in enumerate(PIECES):
            for wrong in [(p, q + 1, d), (p, q - 1, d), (p + 1, q, d), (p, q, 0), (-p, -q, -1),
                          (0, 0, 0), (p, q, -d), (p, q, -BIG)]:
                pieces = with_item(PIECES, at, (start, wrong))
                self.assertIs(judged(pieces, REASONS), False, pieces)

    def test_lines_with_d_below_one_at_large_errors(self):
        points = [(0, 0), (1, 0)]
        for d in (0, -1, -2):
            for error in (0, 5, BIG):
                self.assertIs(judged([(0, (0, 0, d))], [], points, error), False)

    def test_lines_at_the_edge_of_the_error(self):
        points = [(0, 0), (1, 5), (2, 0)]
        self.assertIs(judged([(0, (0, 2, 1))], [], points, 3), True)
        self.assertIs(judged([(0, (0, 5, 2))], [], points, 3), True)
        self.assertIs(judged([(0, (0, 3, 1))], [], points, 3), True)
        self.assertIs(judged([(0, (0, 4, 1))], [], points, 3), False)
        self.assertIs(judged([(0, (0, 1, 1))], [], points, 3), False)

    def test_each_point_counts(self):
        for at, (place, height) in enumerate(POINTS):
            points = with_item(POINTS, at, (place, height + 1))
            self.assertIs(judged(PIECES, REASONS, points), False, at)

    def test_wrong_numbers_of_reasons(self):
        self.assertIs(judged(PIECES, []), False)
        self.assertIs(judged(PIECES, REASONS[:1]), False)
        self.assertIs(judged(PIECES, REASONS + [(6, 7, 8)]), False)
        self.assertIs(judged(PIECES, REASONS + REASONS[1:]), False)
        self.assertIs(judged([(0, (0, 1, 1))], [(0, 0, 0)], [(0, 1), (1, 1)]), False)

    def test_wrong_reasons(self):
        for wrong in [(3, 2, 1), (2, 1, 3), (1, 3, 2), (1, 1, 3), (1, 3, 3), (3, 3, 3), (0, 1, 2),
                      (-1, 2, 3), (-8, -7, -5), (1, 2, 4), (2, 3, 4), (1, 2, 6), (1, 2, 8),
                      (1, 2, BIG), (-BIG, 2, 3)]:
            self.assertIs(judged(PIECES, [wrong, REASONS[1]]), False, wrong)
        for wrong in [(2, 4, 6), (0, 4, 6), (3, 4, 5), (4, 5, 7), (5, 4, 6), (4, 6, 5), (4, 6, 8),
                      (4, 6, 7), (4, 5, 8), (-2, 5, 6), (6, 6, 6)]:
            self.assertIs(judged(PIECES, [REASONS[0], wrong]), False, wrong)
        self.assertIs(judged(PIECES, REASONS[::-1]), False)

    def test_a_reason_of_points_that_fit_for_the_error(self):
        points = [(0, 0), (1, 4), (2, 0), (3, 0)]
        pieces = [(0, (4, 0, 1)), (2, (0, 0, 1))]
        self.assertIs(judged(pieces, [(0, 1, 2)], points, 1), True)
        self.assertIs(judged(pieces, [(0, 1, 2)], points, 2), False)

    def test_more_pieces_than_needed_are_never_accepted(self):
        points = [(0, 0), (1, 0), (2, 0), (3, 0)]
        pieces = [(0, (0, 0, 1)), (2, (0, 0, 1))]
        for a in range(-1, 5):
            for b in range(-1, 5):
                for c in range(-1, 5):
                    self.assertIs(judged(pieces, [(a, b, c)], points), False)


class LeastCounts(unittest.TestCase):
    def test_number_of_pieces_of_the_cut(self):
        for points in point_lists():
            for error in errors_for(points):
                self.assertEqual(least_count(points, error), len(cut(points, error).pieces))

    def test_each_set_of_starts(self):
        draw = random.Random(32)
        for size in range(9):
            for spread in (1, 3, 20):
                points = scattered(draw, size, 3, spread)
                for error in (0, 1, 4):
                    fewest = fewest_pieces(points, lambda piece: pairs_fit(piece, error))
                    self.assertEqual(least_count(points, error), fewest)

    def test_forty_points(self):
        draw = random.Random(33)
        points = scattered(draw, 40, 10 ** 9, 100)
        for error in (0, 20, 60, 100):
            self.assertEqual(least_count(points, error), len(greedy_starts(points, error)))


if __name__ == "__main__":
    unittest.main()
