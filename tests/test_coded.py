"""Points 7.1 and 7.2: coded lists, widths, rooms and best errors."""

import random
import unittest
from fractions import Fraction
from math import floor

from fewestlines.coded import Coded, best_error, error_of_width, room, width
from samples import BIG, errors_for, greedy_starts, line_is_within, value_lists


def points_of(values):
    """The points (index, value)."""
    return list(enumerate(values))


def plain_width(error):
    """The number of binary digits of 2 * error, 0 for 0."""
    return len(f"{2 * error:b}") if error else 0


def plain_room(values, error, header):
    """The room by the cut that the pairs of points give."""
    return len(greedy_starts(points_of(values), error)) * header + len(values) * plain_width(error)


def plain_best(values, header):
    """The least error with the least room, by all errors up to one for which all points fit."""
    most = max(values) - min(values) + 1 if values else 3
    rooms = [plain_room(values, error, header) for error in range(most + 1)]
    return rooms.index(min(rooms))


class CodedLists(unittest.TestCase):
    def check(self, values, error):
        coded = Coded(values, error)
        points = points_of(values)
        starts = [start for start, _ in coded.pieces]
        self.assertEqual(starts, greedy_starts(points, error), (values, error))
        self.assertEqual(len(coded.corrections), len(values))
        ends = starts[1:] + [len(values)]
        for (start, (p, q, d)), end in zip(coded.pieces, ends):
            self.assertTrue(line_is_within((p, q, d), points[start:end], error))
            for index in range(start, end):
                height = floor(Fraction(p * index + q, d))
                self.assertEqual(coded.corrections[index], values[index] - height)
                self.assertTrue(-error <= coded.corrections[index] <= error)
        self.assertEqual(coded.decoded(), values)
        self.assertEqual([coded.value_at(index) for index in range(len(values))], values)
        return len(starts)

    def test_pieces_corrections_and_values(self):
        several = 0
        for values in value_lists():
            for error in errors_for(points_of(values)):
                several += self.check(values, error) > 2
        self.assertGreater(several, 50)

    def test_no_value_and_one_value(self):
        for error in (0, 1, BIG):
            coded = Coded([], error)
            self.assertEqual((coded.pieces, coded.corrections, coded.decoded()), ([], [], []))
            for value in (0, -7, BIG, -BIG):
                self.check([value], error)

    def test_floors_below_zero(self):
        # With the error 1 these fit one line only if its heights are fractions.
        self.assertEqual(self.check([-1, -3, -1, -3, -1, -3, -2], 1), 1)
        self.check([-5, -5, -6, -6, -7, -7], 1)

    def test_two_thousand_values(self):
        draw = random.Random(70)
        for values in ([draw.randint(-BIG, BIG) for _ in range(2000)], [k * k - 9 for k in range(2000)]):
            for error in (0, 1000, BIG):
                coded = Coded(values, error)
                self.assertEqual(coded.decoded(), values)
                self.assertEqual([coded.value_at(k) for k in (0, 1, 999, 1998, 1999)],
                                 [values[k] for k in (0, 1, 999, 1998, 1999)])
                self.assertLessEqual(max(coded.corrections), error)
                self.assertGreaterEqual(min(coded.corrections), -error)

    def test_values_stay_and_lists_are_new(self):
        values = [4, 0, 9, -5]
        coded = Coded(values, 1)
        coded.decoded().clear()
        self.assertEqual(coded.decoded(), [4, 0, 9, -5])
        values.append(8)
        self.assertEqual(coded.decoded(), [4, 0, 9, -5])
        room(values, 1, 5)
        best_error(values, 5)
        self.assertEqual(values, [4, 0, 9, -5, 8])


class Widths(unittest.TestCase):
    def test_small_errors(self):
        self.assertEqual([width(error) for error in range(10)], [0, 2, 3, 3, 4, 4, 4, 4, 5, 5])
        self.assertEqual([error_of_width(digits) for digits in range(7)], [0, 0, 1, 3, 7, 15, 31])

    def test_both_sides_of_powers_of_two(self):
        for power in range(2, 62):
            self.assertEqual(width(2 ** power - 1), power + 1)
            self.assertEqual(width(2 ** power), power + 2)
            self.assertEqual(width(2 ** power + 1), power + 2)

    def test_greatest_error_of_each_width(self):
        for digits in range(2, 101):
            error = error_of_width(digits)
            self.assertEqual(error, 2 ** (digits - 1) - 1)
            self.assertEqual(width(error), digits)
            self.assertGreater(width(error + 1), digits)
        for digits in (0, 1):
            self.assertEqual(error_of_width(digits), 0)
            self.assertGreater(width(1), digits)

    def test_enough_digits_for_all_corrections(self):
        for error in range(200):
            self.assertLessEqual(2 * error + 1, 2 ** width(error))
            if error:
                self.assertGreater(2 * error + 1, 2 ** (width(error) - 1))


class Rooms(unittest.TestCase):
    def test_known_rooms(self):
        values = [0, 1, 2, 10, 12, 14, 0, 0]
        self.assertEqual([room(values, error, 5) for error in (0, 2, 3, 7)], [15, 39, 34, 37])
        self.assertEqual(room(values, 0, 0), 0)
        self.assertEqual(room([], 3, 10), 0)
        self.assertEqual(room([9], 1, 10), 12)

    def test_rooms_by_the_pairs(self):
        for values in value_lists():
            for error in errors_for(points_of(values)):
                for header in (0, 1, 10 ** 6):
                    self.assertEqual(room(values, error, header), plain_room(values, error, header))


class BestErrors(unittest.TestCase):
    def test_none_one_and_level_values(self):
        for header in (0, 1, 64, 10 ** 6):
            for values in ([], [5], [-BIG], [3, 8], [7] * 12, [BIG] * 40, [2 * k for k in range(30)]):
                self.assertEqual(best_error(values, header), 0, (values, header))

    def test_header_zero_takes_no_room_for_the_error_zero(self):
        for values in value_lists():
            self.assertEqual(best_error(values, 0), 0)

    def test_all_errors_one_by_one(self):
        draw = random.Random(71)
        found = set()
        for size in range(1, 14):
            for spread in (1, 3, 9, 40):
                values = [draw.randint(-spread, spread) for _ in range(size)]
                for header in (0, 1, 2, 5, 11, 40, 10 ** 6):
                    error = best_error(values, header)
                    self.assertEqual(error, plain_best(values, header), (values, header))
                    found.add(error)
        self.assertGreater(len(found), 12)

    def test_the_lesser_error_of_two_with_the_same_room(self):
        # For the errors 2 and 3, of the same width, there is one piece.
        values = [0, 4, 0, 4, 0, 4]
        self.assertEqual(room(values, 2, 100), room(values, 3, 100))
        self.assertEqual(best_error(values, 100), 2)
        # The error 0 has 3 pieces without corrections, the error 2 has 1 piece and 18 digits.
        self.assertEqual(room(values, 0, 9), room(values, 2, 9))
        self.assertEqual(best_error(values, 9), 0)
        self.assertEqual(best_error(values, 10), 2)

    def test_large_values(self):
        # One piece from the least error on with which the points fit.
        self.assertEqual(best_error([-BIG, BIG] * 20, 10 ** 6), BIG)
        self.assertEqual(best_error([0, BIG, 0], 200), BIG // 2)
        self.assertEqual(best_error([0, BIG, 0], 100), 0)

    def test_two_thousand_values(self):
        draw = random.Random(72)
        values = [draw.randint(-BIG, BIG) for _ in range(2000)]
        error = best_error(values, 10 ** 6)
        least = room(values, error, 10 ** 6)
        self.assertGreater(room(values, error - 1, 10 ** 6), least)
        for digits in range(62):
            self.assertGreaterEqual(room(values, error_of_width(digits), 10 ** 6), least)
        values = [k * k for k in range(2000)]
        self.assertEqual(best_error(values, 10 ** 6), 499500)


if __name__ == "__main__":
    unittest.main()
