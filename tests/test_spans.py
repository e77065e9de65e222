"""Points 10.1, 10.2 and 0.2: the cut of spans and its judge."""

import random
import unittest
from fractions import Fraction
from itertools import combinations

from fewestlines.cuttings import cut
from fewestlines.spans import SpanCutting, judge_spans, meets, span_cut, three_meet
from samples import BIG, errors_for, fewest_pieces, point_lists, span_lists, starts_in_turn, with_item

# The pieces of these spans are those from 0, 3 and 6 on.
SPANS = [(0, 0, 0), (1, 1, 2), (2, 2, 2), (3, 9, 10), (4, 12, 12), (5, 14, 15), (6, -1, 0), (7, 0, 0)]
PIECES = [(0, (1, 0, 1)), (3, (2, 4, 1)), (6, (0, 0, 1))]
REASONS = [(1, 2, 3), (4, 5, 6)]


def some_line(spans):
    """Whether a line meets the spans, by the bounds of the slopes of all pairs."""
    lower, upper = [], []
    for (a, low, high), (b, least, most) in combinations(spans, 2):
        lower.append(Fraction(least - high, b - a))
        upper.append(Fraction(most - low, b - a))
    return not lower or max(lower) <= min(upper)


def line_is_within(line, spans):
    """Whether the line meets all spans, by fractions."""
    p, q, d = line
    return d >= 1 and all(low <= Fraction(p * x + q, d) <= high for x, low, high in spans)


def judged(pieces, reasons, spans=SPANS):
    """The judge's answer to a cutting of the spans."""
    return judge_spans(spans, SpanCutting(pieces, reasons))


class ThreeSpans(unittest.TestCase):
    def test_both_bounds_and_one_beyond(self):
        # The line of the outer spans' low ends passes 3 at the middle one, that of the high ends 9.
        one, three = (0, 1, 5), (3, 7, 17)
        for low, high, right in [(-9, 3, True), (-9, 2, False), (9, 30, True), (10, 30, False),
                                 (3, 3, True), (9, 9, True), (4, 8, True), (2, 2, False), (10, 10, False)]:
            self.assertIs(three_meet(one, (1, low, high), three), right, (low, high))

    def test_one_beyond_in_the_outer_spans(self):
        middle = (10, 4, 8)
        # At the middle the first span weighs 2 tenths, the last one 8.
        self.assertIs(three_meet((2, 20, 50), middle, (12, 5, 9)), True)
        self.assertIs(three_meet((2, 20, 50), middle, (12, 6, 9)), False)
        self.assertIs(three_meet((2, 21, 50), middle, (12, 5, 9)), False)
        self.assertIs(three_meet((2, -20, -8), middle, (12, 0, 7)), True)
        self.assertIs(three_meet((2, -20, -8), middle, (12, 0, 6)), False)
        self.assertIs(three_meet((2, -20, -9), middle, (12, 0, 7)), False)

    def test_points(self):
        self.assertIs(three_meet((-5, 10, 10), (-4, 12, 12), (5, 30, 30)), True)
        self.assertIs(three_meet((-5, 10, 10), (-4, 13, 13), (5, 30, 30)), False)
        self.assertIs(three_meet((-5, 10, 10), (-4, 11, 11), (5, 30, 30)), False)
        self.assertIs(three_meet((-BIG, -BIG, 0), (0, BIG, BIG), (BIG, BIG, BIG)), False)
        self.assertIs(three_meet((-BIG, -BIG, BIG), (0, BIG, BIG), (BIG, BIG, BIG)), True)

    def test_against_the_slopes(self):
        draw = random.Random(100)
        seen = {True: 0, False: 0}
        for _ in range(3000):
            places = sorted(draw.sample(range(-9, 10), 3))
            lows = [draw.randint(-6, 6) for _ in places]
            spans = [(place, low, low + draw.randint(0, 4)) for place, low in zip(places, lows)]
            right = some_line(spans)
            self.assertIs(three_meet(*spans), right, spans)
            seen[right] += 1
        self.assertGreater(min(seen.values()), 700)


class Meeting(unittest.TestCase):
    def test_at_the_ends_and_beyond(self):
        span = (4, -2, 3)
        for height in range(-5, 8):
            self.assertIs(meets((0, height, 1), span), -2 <= height <= 3)
            self.assertIs(meets((2, height - 8, 1), span), -2 <= height <= 3)
            self.assertIs(meets((-14, 7 * height + 56, 7), span), -2 <= height <= 3)

    def test_fractional_heights(self):
        span = (1, -2, 3)
        for numerator in range(-15, 20):
            self.assertIs(meets((1, numerator - 1, 5), span), -10 <= numerator <= 15)

    def test_low_equal_to_high(self):
        for height in (-7, 0, 5, BIG):
            self.assertIs(meets((0, height, 1), (3, height, height)), True)
            self.assertIs(meets((0, 2 * height, 2), (3, height, height)), True)
            for beside in (2 * height + 1, 2 * height - 1):
                self.assertIs(meets((0, beside, 2), (3, height, height)), False)


class SpanCuttings(unittest.TestCase):
    def test_lists_are_copied(self):
        pieces, reasons = list(PIECES), list(REASONS)
        cutting = SpanCutting(pieces=pieces, reasons=reasons)
        pieces.append((9, (0, 0, 1)))
        reasons.clear()
        self.assertEqual((cutting.pieces, cutting.reasons), (PIECES, REASONS))


class SpanCuts(unittest.TestCase):
    def check(self, spans):
        cutting = span_cut(spans)
        starts = [start for start, _ in cutting.pieces]
        self.assertEqual(starts, starts_in_turn(spans, some_line), spans)
        ends = starts[1:] + [len(spans)]
        for (start, line), end in zip(cutting.pieces, ends):
            self.assertTrue(line_is_within(line, spans[start:end]), (spans, line))
            self.assertTrue(all(isinstance(number, int) for number in line))
        self.assertEqual(len(cutting.reasons), max(0, len(starts) - 1))
        for (first, middle, last), start, end in zip(cutting.reasons, starts, ends):
            self.assertTrue(start <= first < middle < last <= end)
            self.assertFalse(some_line([spans[first], spans[middle], spans[last]]))
        self.assertIs(judge_spans(spans, cutting), True)
        return len(starts)

    def test_pieces_lines_and_reasons(self):
        several = 0
        for spans in span_lists():
            several += self.check(spans) > 2
        self.assertGreater(several, 50)

    def test_none_one_and_two(self):
        self.assertEqual(self.check([]), 0)
        for spans in [[(3, 4, 4)], [(-BIG, -BIG, BIG)], [(0, 1, 2)], [(-BIG, BIG, BIG), (BIG, -BIG, -BIG)],
                      [(0, 0, 5), (1, 100, 100)]]:
            self.assertEqual(self.check(spans), 1)
            self.assertEqual(span_cut(spans).reasons, [])

    def test_reasons_from_four_spans(self):
        # The last span bounds the slope from below with the second one; the first and third bound it from above.
        draw = random.Random(101)
        several = 0
        for _ in range(1500):
            spans = [(k, low, low + draw.randint(0, 12))
                     for k, low in enumerate([draw.randint(-12, 12) for _ in range(9)])]
            several += self.check(spans) > 1
        self.assertGreater(several, 500)

    def test_the_fewest_pieces(self):
        draw = random.Random(102)
        for size in range(9):
            for spread in (1, 3, 20):
                for wide in (0, 2, 9):
                    spans = [(2 * k, low, low + draw.randint(0, wide))
                             for k, low in enumerate([draw.randint(-spread, spread) for _ in range(size)])]
                    self.assertEqual(len(span_cut(spans).pieces), fewest_pieces(spans, some_line))

    def test_points_with_an_error_are_cut_like_the_points(self):
        for points in point_lists():
            for error in errors_for(points):
                spans = [(place, height - error, height + error) for place, height in points]
                starts = [start for start, _ in cut(points, error).pieces]
                self.assertEqual([start for start, _ in span_cut(spans).pieces], starts)

    def test_two_thousand_spans(self):
        draw = random.Random(103)
        for most, low, wide in ((1000, BIG, 0), (1000, BIG, BIG // 10), (1, BIG // 2, BIG)):
            lows = [draw.randint(-low, 0) for _ in range(2000)]
            spans = [(k * 10 ** 14, height, min(BIG, height + wide)) for k, height in enumerate(lows)]
            cutting = span_cut(spans)
            self.assertLessEqual(len(cutting.pieces), most)
            self.assertIs(judge_spans(spans, cutting), True)
        bent = [(k, k * k - 499500, k * k + 499500) for k in range(2000)]
        self.assertEqual(len(span_cut(bent).pieces), 1)
        bent[1999] = (1999, 1999 ** 2 + 499501, 1999 ** 2 + 499501)
        self.assertEqual([start for start, _ in span_cut(bent).pieces], [0, 1999])

    def test_spans_stay_and_lists_are_new(self):
        spans = list(SPANS)
        first = span_cut(spans)
        first.pieces.clear()
        first.reasons.clear()
        second = span_cut(spans)
        judge_spans(spans, second)
        self.assertEqual(spans, SPANS)
        self.assertEqual([start for start, _ in second.pieces], [0, 3, 6])
        self.assertEqual(len(second.reasons), 2)


class Judging(unittest.TestCase):
    def test_right_cuttings(self):
        self.assertIs(judged(PIECES, REASONS), True)
        self.assertIs(judged([], [], []), True)
        self.assertIs(judged([(0, (0, 5, 2))], [], [(7, 2, 3)]), True)

    def test_reasons_up_to_the_next_start(self):
        for why in [(0, 1, 3), (0, 2, 3), (1, 2, 3)]:
            self.assertIs(judged(PIECES, [why, REASONS[1]]), True, why)
        for why in [(3, 4, 6), (3, 5, 6), (4, 5, 6)]:
            self.assertIs(judged(PIECES, [REASONS[0], why]), True, why)

    def test_starts_alone_decide(self):
        level = (0, 0, 1)
        spans = [(k, 0, 0) for k in range(4)]
        self.assertIs(judged([(0, level)], [], spans), True)
        for start in (-1, -4, 1, 3, 4, 5, BIG):
            self.assertIs(judged([(start, level)], [], spans), False, start)
        bent = [(0, 0, 0), (1, 1, 1), (2, 0, 0)]
        self.assertIs(judged([(0, (1, 0, 1)), (2, level)], [(0, 1, 2)], bent), True)
        for starts in [(0, 1), (0, 3), (0, 4), (0, 0), (2, 0), (1, 2), (-1, 2), (0, -1)]:
            pieces = [(starts[0], (1, 0, 1)), (starts[1], level)]
            self.assertIs(judged(pieces, [(0, 1, 2)], bent), False, starts)

    def test_a_start_behind_the_spans_with_a_reason_up_to_it(self):
        level = (0, 0, 1)
        for length in (2, 3, 4):
            spans = [(k, 0, 0) for k in range(length)]
            for start in (length, length + 1, BIG):
                self.assertIs(judged([(0, level), (start, level)], [(0, 1, start)], spans), False)

    def test_pieces_without_spans_and_spans_without_pieces(self):
        self.assertIs(judged([(0, (0, 0, 1))], [], []), False)
        self.assertIs(judged([], [], [(0, 0, 0)]), False)
        self.assertIs(judged([], [], SPANS), False)
        self.assertIs(judged([], [(0, 1, 2)], []), False)

    def test_wrong_lines(self):
        for at, (start, (p, q, d)) in enumerate(PIECES):
            for wrong in [(p, q + 1, d), (p, q - 1, d), (p + 1, q, d), (p, q, 0), (-p, -q, -1), (0, 0, 0),
                          (p, q, -d), (p, q, -BIG)]:
                self.assertIs(judged(with_item(PIECES, at, (start, wrong)), REASONS), False, wrong)

    def test_lines_with_d_below_one(self):
        for d in (0, -1, -2):
            for q in (0, 1, -1):
                self.assertIs(judged([(0, (0, q, d))], [], [(0, -BIG, BIG), (1, -BIG, BIG)]), False)
        self.assertIs(judged([(0, (0, 0, -1))], [], [(0, 0, 0), (1, 0, 0)]), False)

    def test_each_end_of_each_span_counts(self):
        for at, (place, low, high) in enumerate(SPANS):
            height = [k for start, k in [(0, place), (3, 2 * place + 4), (6, 0)] if start <= at][-1]
            self.assertIs(judged(PIECES, REASONS, with_item(SPANS, at, (place, height, height))), True)
            for wrong in [(place, height + 1, height + 1), (place, height - 1, height - 1)]:
                self.assertIs(judged(PIECES, REASONS, with_item(SPANS, at, wrong)), False, at)

    def test_wrong_numbers_of_reasons(self):
        for reasons in ([], REASONS[:1], REASONS + [(6, 7, 8)], REASONS + REASONS[1:]):
            self.assertIs(judged(PIECES, reasons), False)
        self.assertIs(judged([(0, (0, 1, 1))], [(0, 0, 0)], [(0, 1, 1), (1, 1, 1)]), False)

    def test_wrong_reasons(self):
        for wrong in [(3, 2, 1), (2, 1, 3), (1, 3, 2), (1, 1, 3), (1, 3, 3), (3, 3, 3), (0, 1, 2),
                      (-1, 2, 3), (-8, -7, -5), (1, 2, 4), (2, 3, 4), (1, 2, 6), (1, 2, 8),
                      (1, 2, BIG), (-BIG, 2, 3)]:
            self.assertIs(judged(PIECES, [wrong, REASONS[1]]), False, wrong)
        for wrong in [(2, 4, 6), (0, 4, 6), (3, 4, 5), (4, 5, 7), (5, 4, 6), (4, 6, 5), (4, 6, 8),
                      (4, 6, 7), (4, 5, 8), (-2, 5, 6), (6, 6, 6), (4, 5, BIG)]:
            self.assertIs(judged(PIECES, [REASONS[0], wrong]), False, wrong)

    def test_a_reason_of_spans_that_a_line_meets(self):
        pieces = [(0, (4, 0, 1)), (2, (0, 0, 1))]
        spans = [(0, 0, 0), (1, 4, 4), (2, 0, 7), (3, 0, 0)]
        self.assertIs(judged(pieces, [(0, 1, 2)], spans), True)
        # With one more at the end, a line through 0, 4 and 8 meets them.
        self.assertIs(judged(pieces, [(0, 1, 2)], with_item(spans, 2, (2, 0, 8))), False)
        self.assertIs(judged(pieces, [(0, 1, 2)], with_item(spans, 2, (2, 0, BIG))), False)

    def test_more_pieces_than_needed_are_never_accepted(self):
        spans = [(0, 0, 4), (1, 2, 3), (2, 0, 0), (3, -2, 0)]
        pieces = [(0, (0, 2, 1)), (2, (0, 0, 1))]
        for a in range(-1, 5):
            for b in range(-1, 5):
                for c in range(-1, 5):
                    self.assertIs(judged(pieces, [(a, b, c)], spans), False)


if __name__ == "__main__":
    unittest.main()
