"""Points 9.1, 9.2 and 0.2: the flat cut of values and its judge."""

import random
import unittest

from fewestlines.flat import FlatCutting, flat_cut, judge_flat
from samples import BIG, fewest_pieces, starts_in_turn, value_lists, with_item

# For the error 1 the pieces of these values are those from 0, 3 and 5 on.
VALUES = [5, 7, 6, 8, 10, 0, 2, 1]
PIECES = [(0, 6), (3, 9), (5, 1)]
REASONS = [(0, 3), (4, 5)]


def nearly_flat(values, error):
    """Whether no two values differ by more than twice the error, by all pairs."""
    return all(abs(one - other) <= 2 * error for one in values for other in values)


def errors_of(values):
    """The error 0, small and great ones, and both sides of half the greatest difference."""
    found = {0, 1, 2, 7, 10 ** 6, BIG}
    if values:
        half = (max(values) - min(values)) // 2
        found |= {max(0, half - 1), half, half + 1}
    return sorted(found)


def judged(pieces, reasons, values=VALUES, error=1):
    """The judge's answer to a flat cutting of the values."""
    return judge_flat(values, error, FlatCutting(pieces, reasons))


class FlatCuttings(unittest.TestCase):
    def test_lists_are_copied(self):
        pieces, reasons = list(PIECES), list(REASONS)
        cutting = FlatCutting(pieces=pieces, reasons=reasons)
        pieces.append((9, 9))
        reasons.clear()
        self.assertEqual((cutting.pieces, cutting.reasons), (PIECES, REASONS))


class FlatCuts(unittest.TestCase):
    def check(self, values, error):
        cutting = flat_cut(values, error)
        starts = [start for start, _ in cutting.pieces]
        self.assertEqual(starts, starts_in_turn(values, lambda piece: nearly_flat(piece, error)))
        ends = starts[1:] + [len(values)]
        for (start, height), end in zip(cutting.pieces, ends):
            self.assertIsInstance(height, int)
            self.assertTrue(all(abs(value - height) <= error for value in values[start:end]))
        self.assertEqual(len(cutting.reasons), max(0, len(starts) - 1))
        for (first, last), start, end in zip(cutting.reasons, starts, ends):
            self.assertTrue(start <= first < last <= end)
            self.assertGreater(abs(values[first] - values[last]), 2 * error)
        self.assertIs(judge_flat(values, error, cutting), True)
        return len(starts)

    def test_pieces_heights_and_reasons(self):
        several = 0
        for values in value_lists():
            for error in errors_of(values):
                several += self.check(values, error) > 2
        self.assertGreater(several, 100)

    def test_known_starts(self):
        self.assertEqual([start for start, _ in flat_cut(VALUES, 1).pieces], [0, 3, 5])
        self.assertEqual(flat_cut(VALUES, 5).pieces, [(0, 5)])
        self.assertEqual(flat_cut([], 0).pieces, [])
        self.assertEqual(flat_cut([], 0).reasons, [])
        self.assertEqual(flat_cut([-4], 0).pieces, [(0, -4)])
        self.assertEqual(flat_cut([2, 2, 3, 3, 3, 2], 0).pieces, [(0, 2), (2, 3), (5, 2)])

    def test_odd_distances(self):
        # Two values 3 apart have no integer height for the error 1, but two for the error 2.
        self.assertEqual(self.check([0, 3], 1), 2)
        self.assertEqual(self.check([-3, 0], 1), 2)
        self.assertEqual(self.check([0, 3], 2), 1)
        self.assertEqual(self.check([-7, -4], 2), 1)

    def test_the_fewest_pieces(self):
        draw = random.Random(90)
        for size in range(9):
            for spread in (1, 3, 20):
                values = [draw.randint(-spread, spread) for _ in range(size)]
                for error in (0, 1, 4):
                    fewest = fewest_pieces(values, lambda piece: nearly_flat(piece, error))
                    self.assertEqual(len(flat_cut(values, error).pieces), fewest)

    def test_two_thousand_values(self):
        draw = random.Random(91)
        values = [draw.randint(-BIG, BIG) for _ in range(2000)]
        for error, most in ((0, 2000), (10 ** 17, 2000), (9 * 10 ** 17, 700), (BIG, 1)):
            cutting = flat_cut(values, error)
            self.assertLessEqual(len(cutting.pieces), most)
            self.assertIs(judge_flat(values, error, cutting), True)

    def test_values_stay_and_lists_are_new(self):
        values = list(VALUES)
        first = flat_cut(values, 1)
        first.pieces.clear()
        first.reasons.clear()
        second = flat_cut(values, 1)
        judge_flat(values, 1, second)
        self.assertEqual(values, VALUES)
        self.assertEqual((len(second.pieces), len(second.reasons)), (3, 2))


class Judging(unittest.TestCase):
    def test_right_cuttings(self):
        self.assertIs(judged(PIECES, REASONS), True)
        self.assertIs(judged([], [], []), True)
        self.assertIs(judged([(0, 4)], [], [5]), True)

    def test_reasons_up_to_the_next_start(self):
        self.assertIs(judged(PIECES, [(0, 3), (3, 5)]), True)
        self.assertIs(judged(PIECES, [(0, 3), (4, 5)]), True)
        # Within the piece's own values no two are too far apart, so no piece ends before the reason.
        self.assertIs(judged(PIECES, [(0, 4), (4, 5)]), False)
        self.assertIs(judged(PIECES, [(0, 3), (4, 6)]), False)

    def test_heights_at_the_edge_of_the_error(self):
        values = [5, 7, 6]
        for error, right in ((0, []), (1, [6]), (2, [5, 6, 7]), (3, [4, 5, 6, 7, 8])):
            accepted = [height for height in range(-3, 15) if judged([(0, height)], [], values, error)]
            self.assertEqual(accepted, right)

    def test_each_value_and_each_height_counts(self):
        for at, value in enumerate(VALUES):
            for other in (value + 3, value - 3):
                self.assertIs(judged(PIECES, REASONS, with_item(VALUES, at, other)), False, at)
        for at, (start, height) in enumerate(PIECES):
            for other in (height - 2, height + 2, BIG):
                self.assertIs(judged(with_item(PIECES, at, (start, other)), REASONS), False)

    def test_starts_alone_decide(self):
        values = [0, 0, 0, 0]
        self.assertIs(judged([(0, 0)], [], values), True)
        for start in (-1, -4, 1, 3, 4, 5, BIG):
            self.assertIs(judged([(start, 0)], [], values), False, start)
        values = [0, 0, 9]
        self.assertIs(judged([(0, 0), (2, 9)], [(0, 2)], values), True)
        for starts in [(0, 1), (0, 3), (0, 4), (0, 0), (2, 0), (1, 2), (-1, 2), (0, -1)]:
            pieces = [(starts[0], 0), (starts[1], 9)]
            self.assertIs(judged(pieces, [(0, 2)], values), False, starts)

    def test_a_start_behind_the_values_with_a_reason_up_to_it(self):
        for length in (1, 2, 3):
            values = [0] * length
            for start in (length, length + 1, BIG):
                self.assertIs(judged([(0, 0), (start, 0)], [(0, start)], values), False)

    def test_pieces_without_values_and_values_without_pieces(self):
        self.assertIs(judged([(0, 0)], [], []), False)
        self.assertIs(judged([], [], [0]), False)
        self.assertIs(judged([], [], VALUES), False)
        self.assertIs(judged([], [(0, 1)], []), False)

    def test_wrong_numbers_of_reasons(self):
        for reasons in ([], REASONS[:1], REASONS + [(5, 6)], REASONS + REASONS[1:]):
            self.assertIs(judged(PIECES, reasons), False)
        self.assertIs(judged([(0, 0)], [(0, 1)], [0, 9], 9), False)

    def test_wrong_reasons(self):
        for wrong in [(3, 0), (0, 0), (3, 3), (1, 3), (2, 3), (0, 1), (-8, 3), (-1, 3), (0, 5), (0, 8),
                      (0, BIG), (-BIG, 3), (4, 5), (0, 4)]:
            self.assertIs(judged(PIECES, [wrong, REASONS[1]]), False, wrong)
        for wrong in [(5, 4), (5, 5), (3, 4), (2, 5), (0, 5), (4, 6), (4, 7), (4, 8), (4, BIG), (-4, 5),
                      (0, 3)]:
            self.assertIs(judged(PIECES, [REASONS[0], wrong]), False, wrong)

    def test_differences_of_twice_the_error_and_one_more(self):
        for error in (0, 1, 5, BIG // 2):
            for side in (1, -1):
                near, far = [0, side * 2 * error], [0, side * (2 * error + 1)]
                self.assertIs(judged([(0, 0), (1, near[1])], [(0, 1)], near, error), False)
                self.assertIs(judged([(0, 0), (1, far[1])], [(0, 1)], far, error), True)

    def test_more_pieces_than_needed_are_never_accepted(self):
        for a in range(-1, 5):
            for b in range(-1, 5):
                self.assertIs(judged([(0, 0), (2, 0)], [(a, b)], [0, 2, 0, 1]), False)


if __name__ == "__main__":
    unittest.main()
