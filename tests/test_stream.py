"""Points 14.1 and 14.2: values one after another, and forecasts."""

import random
import unittest
from fractions import Fraction
from math import ceil, floor

from fewestlines.cuttings import cut
from fewestlines.stream import Stream
from samples import BIG, greedy_starts, line_is_within, value_lists

ERRORS = (0, 1, 3, 20, 10 ** 6, BIG)


def extremes(points, error, place):
    """The least and the greatest height at a place behind the points, by the bounds of all pairs."""
    least, greatest = [], []
    for at, (u, v) in enumerate(points):
        for x, y in points[:at]:
            least.append(v - error + Fraction((v - error) - (y + error), u - x) * (place - u))
            greatest.append(v + error + Fraction((v + error) - (y - error), u - x) * (place - u))
    return max(least), min(greatest)


def forecasts(points, error, steps):
    """The forecast for the last piece of the points."""
    last = points[greedy_starts(points, error)[-1]:]
    if len(last) < 2:
        return None
    least, greatest = extremes(last, error, points[-1][0] + steps)
    return floor(least), floor(greatest)


class Pieces(unittest.TestCase):
    def check(self, values, error):
        stream = Stream(error)
        closed = []
        for index, value in enumerate(values):
            points = list(enumerate(values[:index + 1]))
            before = stream.pieces()
            answer = stream.push(value)
            starts = greedy_starts(points, error)
            pieces = stream.pieces()
            self.assertEqual([start for start, _ in pieces], starts, (values, error))
            self.assertEqual(stream.length, index + 1)
            for (start, line), end in zip(pieces, starts[1:] + [len(points)]):
                self.assertTrue(line_is_within(line, points[start:end], error), (points, error, line))
            if len(pieces) > max(1, len(before)):
                self.assertEqual(answer, before[-1])
                closed.append(answer)
            else:
                self.assertIsNone(answer)
            self.assertEqual(pieces[:-1], closed)
        return len(closed)

    def test_after_each_value(self):
        several = 0
        for values in value_lists():
            for error in ERRORS:
                several += self.check(values, error) > 1
        self.assertGreater(several, 50)

    def test_before_the_first_value(self):
        stream = Stream(error=4)
        self.assertEqual((stream.error, stream.length, stream.pieces()), (4, 0, []))

    def test_closed_pieces(self):
        stream = Stream(0)
        answers = [stream.push(value) for value in [0, 1, 2, 10, 12, 14, 0]]
        self.assertEqual(answers, [None, None, None, (0, (1, 0, 1)), None, None, (3, (2, 4, 1))])
        self.assertEqual(stream.pieces(), [(0, (1, 0, 1)), (3, (2, 4, 1)), (6, (0, 0, 1))])

    def test_a_bend_at_twice_the_error_and_beyond(self):
        for error in (0, 1, 5, BIG // 8):
            for side in (1, -1):
                stream = Stream(error)
                self.assertEqual([stream.push(value) for value in [0, 0, side * 4 * error]], [None] * 3)
                stream = Stream(error)
                stream.push(0)
                stream.push(0)
                piece = stream.push(side * (4 * error + 1))
                self.assertEqual(piece[0], 0)
                self.assertEqual([start for start, _ in stream.pieces()], [0, 2])

    def test_two_thousand_values(self):
        draw = random.Random(140)
        for values in ([draw.randint(-BIG, BIG) for _ in range(2000)], [k * k - 5 for k in range(2000)]):
            for error in (0, 1000, BIG):
                stream = Stream(error)
                for value in values:
                    stream.push(value)
                wanted = [start for start, _ in cut(list(enumerate(values)), error).pieces]
                self.assertEqual([start for start, _ in stream.pieces()], wanted)

    def test_lists_are_new(self):
        stream = Stream(0)
        for value in [0, 5, 0]:
            stream.push(value)
        stream.pieces().clear()
        stream.pieces().append((9, (0, 0, 1)))
        self.assertEqual([start for start, _ in stream.pieces()], [0, 2])
        stream.push(7)
        self.assertEqual([start for start, _ in stream.pieces()], [0, 2])


class Forecasts(unittest.TestCase):
    def test_bounds_of_all_pairs(self):
        told = 0
        for values in value_lists():
            for error in ERRORS:
                stream = Stream(error)
                for index, value in enumerate(values):
                    stream.push(value)
                    points = list(enumerate(values[:index + 1]))
                    for steps in (1, 2, 1000):
                        right = forecasts(points, error, steps)
                        self.assertEqual(stream.forecast(steps), right, (points, error, steps))
                        told += right is not None
        self.assertGreater(told, 3000)

    def test_fewer_than_two_points(self):
        stream = Stream(2)
        for value, told in [(5, False), (5, True), (5, True), (900, False), (901, True)]:
            stream.push(value)
            for steps in (1, 1000):
                self.assertIs(stream.forecast(steps) is not None, told)
        stream = Stream(0)
        stream.push(3)
        self.assertIsNone(stream.forecast(1))
        self.assertIsNone(stream.forecast(1000))

    def test_known_forecasts(self):
        stream = Stream(0)
        for value in [-4, -7]:
            stream.push(value)
        self.assertEqual(stream.forecast(1), (-10, -10))
        self.assertEqual(stream.forecast(1000), (-3007, -3007))
        stream = Stream(1)
        for value in [0, 0]:
            stream.push(value)
        self.assertEqual((stream.forecast(1), stream.forecast(10)), ((-3, 3), (-21, 21)))
        stream.push(0)
        self.assertEqual((stream.forecast(1), stream.forecast(2)), ((-2, 2), (-3, 3)))
        stream.push(0)
        # The extreme lines now have thirds as heights: both are rounded down.
        self.assertEqual((stream.forecast(1), stream.forecast(2)), ((-2, 1), (-3, 2)))

    def test_the_next_value_fits_just_within(self):
        # The values that can follow are those up to the error away from the exact heights.
        draw = random.Random(141)
        for _ in range(200):
            error = draw.randint(0, 6)
            values = [draw.randint(-5, 5)]
            while len(values) < 8:
                values.append(values[-1] + draw.randint(-2, 2))
            points = list(enumerate(values))
            start = greedy_starts(points, error)[-1]
            if len(points) - start < 2:
                continue
            least, greatest = extremes(points[start:], error, len(points))
            for value, fits in [(ceil(least) - error, True), (ceil(least) - error - 1, False),
                                (floor(greatest) + error, True), (floor(greatest) + error + 1, False)]:
                stream = Stream(error)
                for other in values:
                    stream.push(other)
                self.assertIs(stream.push(value) is None, fits)

    def test_a_forecast_changes_nothing(self):
        stream = Stream(3)
        for value in [1, 8, 3, 9]:
            stream.push(value)
        before = (stream.pieces(), stream.length, stream.forecast(5))
        stream.forecast(1)
        stream.forecast(1000)
        self.assertEqual((stream.pieces(), stream.length, stream.forecast(5)), before)


if __name__ == "__main__":
    unittest.main()
