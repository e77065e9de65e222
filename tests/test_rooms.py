"""Points 11.1 to 11.4 and 0.2: plans, their judge, and the plan with the least room."""

import random
import unittest
from fractions import Fraction

from fewestlines.coded import error_of_width, width
from fewestlines.rooms import Plan, best_plan, judge_plan, plan_room
from samples import BIG, line_is_within, pairs_fit, scattered, value_lists, with_item

# Three of these values in a row fit for the error 2, that is, from width 3 on.
VALUES = [0, 4, 0, 4, 0, 4]
ROW = [(2, (0, 1, 2)), (3, (1, 2, 3)), (4, (2, 3, 4)), (5, (3, 4, 5)), (6, None), (6, None)]
LAST = [(6, None)] * 6
REACHES = [ROW, ROW, ROW, LAST]
# For the header 10 one piece of width 3 is best, for the header 5 three pieces of width 0.
HEADER = 10
PIECES = [(0, 3, (0, 2, 1))]
PRICES = [0, 10, 10, 19, 20, 25, 28]
PAIRS = [(0, 0, (4, 0, 1)), (2, 0, (4, -8, 1)), (4, 0, (4, -16, 1))]
PAIR_PRICES = [0, 5, 5, 10, 10, 15, 15]


def judged(pieces=PIECES, reaches=REACHES, prices=PRICES, values=VALUES, header=HEADER):
    """The judge's answer to a plan."""
    return judge_plan(values, header, Plan(pieces, reaches, prices))


def pairs_judged(pieces=PAIRS, reaches=REACHES, prices=PAIR_PRICES):
    """The judge's answer to a plan for the header 5."""
    return judged(pieces, reaches, prices, VALUES, 5)


def with_reach(digits, index, reach):
    """The reaches with another one of the width at the index."""
    return with_item(REACHES, digits, with_item(REACHES[digits], index, reach))


def reach_end(points, start, error):
    """The greatest end with which the points from the start on fit, by the bounds of all pairs."""
    lower = upper = None
    for end in range(start, len(points)):
        u, v = points[end]
        for x, y in points[start:end]:
            low, high = Fraction(v - y - 2 * error, u - x), Fraction(v - y + 2 * error, u - x)
            lower = low if lower is None else max(lower, low)
            upper = high if upper is None else min(upper, high)
        if lower is not None and lower > upper:
            return end
    return len(points)


def least_width(points):
    """The first width with which the points fit."""
    digits = 0
    while not pairs_fit(points, error_of_width(digits)):
        digits += 1
    return digits


def needed_widths(values):
    """The first width of each piece (a, b) with which its points fit."""
    points = list(enumerate(values))
    return {(a, b): least_width(points[a:b]) for b in range(len(values) + 1) for a in range(b)}


def plain_prices(needed, header, length):
    """The least rooms of the first values, by all last pieces."""
    prices = [0]
    for end in range(1, length + 1):
        prices.append(min(prices[a] + header + (end - a) * needed[a, end] for a in range(end)))
    return prices


class Plans(unittest.TestCase):
    def test_lists_are_copied(self):
        pieces, prices = list(PIECES), list(PRICES)
        reaches = [list(row) for row in REACHES]
        plan = Plan(pieces=pieces, reaches=reaches, prices=prices)
        pieces.clear()
        prices.append(9)
        reaches[0][1] = (9, None)
        reaches[1].clear()
        reaches.append([])
        self.assertEqual((plan.pieces, plan.reaches, plan.prices), (PIECES, REACHES, PRICES))

    def test_inner_lists_are_not_shared(self):
        plan = Plan(PIECES, [ROW, ROW], PRICES)
        plan.reaches[0].clear()
        self.assertEqual(plan.reaches, [[], ROW])
        self.assertEqual(len(ROW), 6)


class Rooms(unittest.TestCase):
    def room(self, length, header, *pieces):
        return plan_room([0] * length, header, Plan(pieces, [], []))

    def test_pieces_of_different_widths(self):
        line = (0, 0, 1)
        self.assertEqual(self.room(10, 0, (0, 3, line), (4, 0, line), (7, 5, line)), 4 * 3 + 3 * 5)
        self.assertEqual(self.room(10, 7, (0, 3, line), (4, 0, line), (7, 5, line)), 21 + 4 * 3 + 3 * 5)
        self.assertEqual(self.room(10, 10 ** 6, (0, 1, line)), 10 ** 6 + 10)
        self.assertEqual(self.room(2, 3, (0, 100, line), (1, 2, line)), 6 + 100 + 2)

    def test_no_values(self):
        self.assertEqual(self.room(0, 5), 0)

    def test_only_starts_and_widths_count(self):
        self.assertEqual(plan_room(VALUES, 10, Plan([(0, 0, (9, 9, 0)), (5, 1, (9, 9, 0))], [], [3])), 21)


class BestPlans(unittest.TestCase):
    def check(self, values, header):
        plan = best_plan(values, header)
        points = list(enumerate(values))
        self.assertIs(judge_plan(values, header, plan), True, (values, header))
        self.check_reaches(points, plan.reaches)
        ends = [start for start, _, _ in plan.pieces[1:]] + [len(values)]
        for (start, digits, line), end in zip(plan.pieces, ends):
            self.assertTrue(line_is_within(line, points[start:end], error_of_width(digits)))
        self.assertEqual(plan_room(values, header, plan), plan.prices[-1])
        return plan

    def check_reaches(self, points, reaches):
        for digits, row in enumerate(reaches):
            error = error_of_width(digits)
            self.assertEqual([end for end, _ in row],
                             [reach_end(points, index, error) for index in range(len(points))])
            for index, (end, why) in enumerate(row):
                if end == len(points):
                    self.assertIsNone(why)
                else:
                    first, middle, last = why
                    self.assertTrue(index <= first < middle < last <= end)
                    self.assertFalse(pairs_fit([points[k] for k in why], error))
            self.assertIs(pairs_fit(points, error), digits == len(reaches) - 1)

    def test_no_value_one_value_and_level_values(self):
        for header in (0, 1, 10 ** 6):
            plan = self.check([], header)
            self.assertEqual((plan.pieces, plan.reaches, plan.prices), ([], [[]], [0]))
            plan = self.check([-8], header)
            self.assertEqual((plan.reaches, plan.prices), ([[(1, None)]], [0, header]))
            self.assertEqual([piece[:2] for piece in plan.pieces], [(0, 0)])
            for values in ([5] * 9, [0, BIG], [2 * k - 7 for k in range(9)]):
                plan = self.check(values, header)
                self.assertEqual(plan.reaches, [[(len(values), None)] * len(values)])
                self.assertEqual(plan.prices, [0] + [header] * len(values))

    def test_known_plan(self):
        plan = self.check(VALUES, 10)
        self.assertEqual(plan.prices, PRICES)
        self.assertEqual([piece[:2] for piece in plan.pieces], [(0, 3)])
        self.assertEqual([[end for end, _ in row] for row in plan.reaches], [[2, 3, 4, 5, 6, 6]] * 3 + [[6] * 6])
        plan = self.check(VALUES, 5)
        self.assertEqual(plan.prices, PAIR_PRICES)
        self.assertEqual([piece[:2] for piece in plan.pieces], [(0, 0), (2, 0), (4, 0)])

    def check_prices(self, values, headers):
        """The number of different widths of the pieces, for each header."""
        needed = needed_widths(values)
        found = []
        for header in headers:
            plan = self.check(values, header)
            self.assertEqual(plan.prices, plain_prices(needed, header, len(values)), (values, header))
            found.append(len({piece[1] for piece in plan.pieces}))
        return found

    def test_least_rooms_over_all_pieces_and_widths(self):
        for values in value_lists():
            self.check_prices(values, (0, 1, 9, 40, 200))

    def test_pieces_of_different_widths(self):
        draw = random.Random(113)
        mixed = 0
        for size in (4, 7, 10):
            rough = [draw.randint(-2, 2) for _ in range(size)]
            for values in (rough + [0] * size, [30 * k for k in range(size)] + rough,
                           [draw.randint(-40, 40) for _ in range(size)] + rough):
                mixed += sum(count > 1 for count in self.check_prices(values, (3, 8, 20, 50)))
        self.assertGreater(mixed, 8)

    def test_longer_lists(self):
        draw = random.Random(110)
        for values in ([height for _, height in scattered(draw, 40, 1, 60)], [k * k for k in range(50)],
                       [k * k * k // 7 - 40 * k * k for k in range(50)],
                       [(k * k if k < 25 else -3 * k) * 100 + draw.randint(-30, 30) for k in range(50)],
                       [k // 6 * 50 for k in range(50)], [0] * 20 + [900] + [0] * 20):
            for header in (3, 50):
                plan = self.check(values, header)
        self.assertGreater(len(plan.reaches), 5)

    def test_prices_of_a_longer_list(self):
        draw = random.Random(111)
        values = [height for _, height in scattered(draw, 26, 1, 40)]
        self.check_prices(values, (0, 7, 30, 1000))

    def test_two_thousand_values(self):
        draw = random.Random(112)
        for values, header in ([k * k * 10 ** 11 for k in range(2000)], 64), \
                ([draw.randint(-BIG, BIG) for _ in range(2000)], 10 ** 6), \
                ([k * 10 ** 10 + draw.randint(-9, 9) for k in range(2000)], 64):
            plan = best_plan(values, header)
            self.assertIs(judge_plan(values, header, plan), True)
            ends = [[end for end, _ in row] for row in plan.reaches]
            for row in ends:
                self.assertEqual(row, sorted(row))
            for row, wider in zip(ends, ends[1:]):
                self.assertTrue(all(end <= other for end, other in zip(row, wider)))

    def test_values_stay_and_lists_are_new(self):
        values = list(VALUES)
        first = best_plan(values, 10)
        first.pieces.clear()
        first.reaches[0].clear()
        first.reaches[3].clear()
        first.prices.clear()
        second = best_plan(values, 10)
        judge_plan(values, 10, second)
        plan_room(values, 10, second)
        self.assertEqual(values, VALUES)
        self.assertEqual((second.prices, len(second.pieces)), (PRICES, 1))
        self.assertEqual([len(row) for row in second.reaches], [6] * 4)
        second.reaches[0].append((0, None))
        self.assertEqual([len(row) for row in second.reaches], [7, 6, 6, 6])


class Judging(unittest.TestCase):
    def test_right_plans(self):
        self.assertIs(judged(), True)
        self.assertIs(pairs_judged(), True)
        self.assertIs(judged([], [[]], [0], []), True)
        self.assertIs(judged([], [[], [], []], [0], []), True)
        self.assertIs(judged([(0, 0, (0, 7, 1))], [[(1, None)]], [0, 10], [7]), True)

    def test_wrong_starts(self):
        for at, wrong in [(0, 1), (0, -1), (0, 2), (1, 0), (1, 4), (1, 5), (1, 6), (1, -2), (2, 2), (2, 6),
                          (2, 7), (2, BIG), (2, -2), (0, -BIG)]:
            pieces = with_item(PAIRS, at, (wrong, 0, PAIRS[at][2]))
            self.assertIs(pairs_judged(pieces), False, pieces)
        self.assertIs(pairs_judged(PAIRS[1:]), False)
        self.assertIs(pairs_judged([]), False)
        self.assertIs(judged([], [[(1, None)]], [0, 0], [7], 0), False)
        self.assertIs(judged([(0, 0, (0, 0, 1))], [[]], [0], [], 0), False)

    def test_starts_alone_decide(self):
        # All points are on one line and pieces cost nothing, so nothing else can be wrong.
        level, reaches = (0, 0, 1), [[(3, None)] * 3]
        for starts, right in [([0], True), ([0, 1], True), ([0, 1, 2], True), ([0, 2], True), ([], False),
                              ([1], False), ([-1], False), ([0, 0], False), ([0, 2, 1], False), ([0, 3], False),
                              ([0, -1], False), ([0, 1, 1], False), ([0, 1, 4], False), ([1, 2], False)]:
            pieces = [(start, 0, level) for start in starts]
            self.assertIs(judged(pieces, reaches, [0] * 4, [0, 0, 0], 0), right, starts)

    def test_widths_below_zero(self):
        # With the lower price everything but the width is right.
        self.assertIs(judged([(0, -1, (0, 7, 1))], [[(1, None)]], [0, 9], [7]), False)
        self.assertIs(judged([(0, -BIG, (0, 7, 1))], [[(1, None)]], [0, 10 - BIG], [7]), False)

    def test_widths_up_to_a_hundred(self):
        for high, right in ((2 ** 100 - 2, True), (2 ** 100, False)):
            values = [0, high, 0]
            plan = best_plan(values, 10 ** 6)
            self.assertEqual(plan.pieces[0][1], 100 if right else 101)
            self.assertIs(judge_plan(values, 10 ** 6, plan), right)
        for digits in (101, BIG):
            self.assertIs(judged([(0, digits, (0, 2, 1))]), False)

    def test_wrong_lines(self):
        for line, right in [((0, 1, 1), True), ((0, 3, 1), True), ((0, 7, 2), False), ((0, 0, 1), False),
                            ((0, 4, 1), False), ((0, 2, 0), False), ((0, -2, -1), False), ((0, 0, 0), False),
                            ((0, 2, -1), False), ((1, 0, 1), False), ((0, 2, -BIG), False)]:
            self.assertIs(judged([(0, 3, line)]), right, line)
        for at, (start, digits, (p, q, d)) in enumerate(PAIRS):
            for line in [(p, q + 1, d), (p + 1, q, d), (p, q, 0), (-p, -q, -d), (p, q, -1)]:
                self.assertIs(pairs_judged(with_item(PAIRS, at, (start, digits, line))), False)

    def test_the_line_is_for_the_error_of_its_width(self):
        # Of width 2, for the error 1, one piece would have less room, but no line fits.
        prices = [0, 10, 10, 19, 20, 25, 22]
        self.assertIs(judged([(0, 2, (0, 2, 1))], REACHES, prices), False)
        self.assertIs(judged([(0, 4, (0, 2, 1))], REACHES, PRICES), False)

    def test_numbers_of_reaches_and_prices(self):
        self.assertIs(judged(reaches=[]), False)
        self.assertIs(judged([], [], [0], []), False)
        self.assertIs(judged([], [[(0, None)]], [0], []), False)
        for digits in range(4):
            for row in (REACHES[digits][:-1], REACHES[digits] + [(6, None)], []):
                self.assertIs(judged(reaches=with_item(REACHES, digits, row)), False)
        for prices in (PRICES[:-1], PRICES + [28], [0], [], PRICES[1:], [0] + PRICES):
            self.assertIs(judged(prices=prices), False)
        self.assertIs(judged([], [[]], [], []), False)
        self.assertIs(judged([], [[]], [0, 0], []), False)

    def test_more_lists_of_reaches_are_right(self):
        self.assertIs(judged(reaches=REACHES + [LAST]), True)
        self.assertIs(judged(reaches=REACHES + [LAST] * 120), True)

    def test_a_last_width_with_a_reason(self):
        self.assertIs(judged(reaches=REACHES[:3]), False)
        for digits in (1, 2, 3):
            self.assertIs(pairs_judged(reaches=REACHES[:digits]), False)
        # For one index alone.
        values, row = [0, 9, 0, 0], [(2, (0, 1, 2)), (3, (1, 2, 3)), (4, None), (4, None)]
        pieces = [(0, 0, (9, 0, 1)), (2, 0, (0, 0, 1))]
        later = [row[0]] + [(4, None)] * 3
        for reaches, right in [([row, row, row, later, [(4, None)] * 4], True), ([row, row, row, later], False),
                               ([row, row, row], False), ([row], False), ([], False)]:
            self.assertIs(judged(pieces, reaches, [0, 1, 1, 2, 2], values, 1), right)

    def test_ends_of_reaches(self):
        for end, right in [(0, False), (1, False), (2, True), (3, True), (-1, False), (-6, False),
                           (6, False), (7, False), (BIG, False), (-BIG, False)]:
            self.assertIs(pairs_judged(reaches=with_reach(2, 0, (end, (0, 1, 2)))), right, end)
        for end, right in [(3, False), (4, False), (5, True), (6, False), (2, False), (7, False)]:
            self.assertIs(judged(reaches=with_reach(2, 3, (end, (3, 4, 5)))), right, end)
        for end in (0, 4, 5, 7, -1, BIG):
            self.assertIs(judged(reaches=with_reach(0, 4, (end, None))), False, end)
            self.assertIs(judged(reaches=with_reach(3, 0, (end, None))), False, end)

    def test_an_end_that_is_its_own_index(self):
        # Its reason would be right for a piece that ends there.
        for index in range(6):
            for why in [(0, 1, 2), (index, index + 1, index + 2), (index - 2, index - 1, index)]:
                self.assertIs(judged(reaches=with_reach(1, index, (index, why))), False)

    def test_a_longer_reach_asks_for_more(self):
        # With the end 3 in place of 2, three values would have the room 5 + 3 * width; they cost 10.
        for digits, right in ((0, False), (1, False), (2, True)):
            self.assertIs(pairs_judged(reaches=with_reach(digits, 0, (3, (0, 1, 2)))), right)
        # With all values in one reach, it is 5 + 6 * width; they cost 15.
        for digits, right in ((0, False), (1, False), (2, True)):
            self.assertIs(pairs_judged(reaches=with_reach(digits, 0, (6, None))), right)
            self.assertIs(pairs_judged(reaches=with_reach(digits, 2, (6, None))), right)
            self.assertIs(pairs_judged(reaches=with_reach(digits, 3, (6, None))), True)

    def test_missing_and_needless_reasons(self):
        for digits in range(3):
            for index in range(4):
                end = REACHES[digits][index][0]
                self.assertIs(judged(reaches=with_reach(digits, index, (end, None))), False)
            for index in (4, 5):
                for why in [(3, 4, 5), (4, 5, 6), (index, index, index)]:
                    for end in (5, 6):
                        self.assertIs(judged(reaches=with_reach(digits, index, (end, why))), False)
        for why in [(0, 1, 2), (3, 4, 5), (4, 5, 6)]:
            self.assertIs(judged(reaches=with_reach(3, 0, (6, why))), False)
            self.assertIs(judged(reaches=with_reach(3, 0, (5, why))), False)

    def test_wrong_reasons(self):
        for why in [(2, 1, 0), (1, 0, 2), (0, 2, 1), (0, 0, 2), (0, 2, 2), (2, 2, 2), (0, 1, 3), (1, 2, 3),
                    (0, 1, 6), (0, 1, BIG), (-1, 1, 2), (-2, -1, 0), (-6, -5, -4), (-BIG, 1, 2)]:
            self.assertIs(judged(reaches=with_reach(0, 0, (2, why))), False, why)
        for why in [(0, 1, 2), (0, 2, 3), (1, 2, 4), (2, 3, 4), (1, 3, 2), (-5, 2, 3), (1, 2, 5)]:
            self.assertIs(judged(reaches=with_reach(1, 1, (3, why))), False, why)

    def test_reasons_of_points_that_fit(self):
        # The width 3 has the error 3, and 0, 4, 0 fit for the error 2.
        reaches = with_item(REACHES, 3, [(5, (0, 1, 2))] + LAST[1:]) + [LAST]
        self.assertIs(judged(reaches=reaches), False)
        self.assertIs(judged(reaches=with_item(reaches, 3, LAST)), True)
        # 0, 6, 0 do not fit for the error 2, but for the error 3.
        values, level = [0, 6, 0], [(3, None)] * 3
        short = [(2, (0, 1, 2)), (3, None), (3, None)]
        pieces = [(0, 0, (6, 0, 1)), (2, 0, (0, 0, 1))]
        self.assertIs(judged(pieces, [short, short, short, level], [0, 1, 1, 2], values, 1), True)
        self.assertIs(judged(pieces, [short, short, short, short, level], [0, 1, 1, 2], values, 1), False)

    def test_first_price(self):
        self.assertIs(judged(prices=[-1] + PRICES[1:]), False)
        self.assertIs(judged(prices=[1] + PRICES[1:]), False)
        self.assertIs(judged([], [[]], [1], []), False)
        self.assertIs(judged([], [[]], [-1], []), False)

    def test_prices_that_are_too_high(self):
        for at in range(1, 7):
            for more in (1, 5, BIG):
                self.assertIs(judged(prices=with_item(PRICES, at, PRICES[at] + more)), False, at)
        # The room of a plan that is not the best, with prices that say so.
        worse = [(0, 3, (0, 2, 1)), (3, 3, (0, 2, 1))]
        self.assertIs(judged(worse, prices=[0, 10, 10, 19, 20, 25, 38]), False)
        self.assertIs(judged(PAIRS, prices=[0, 10, 10, 20, 20, 30, 30]), False)
        self.assertIs(judged([(0, 4, (0, 2, 1))], prices=[0, 10, 10, 19, 20, 25, 34]), False)

    def test_prices_that_are_lower(self):
        # A price between may be lower than it could be, as long as the last one still is right.
        self.assertIs(judged(prices=with_item(PRICES, 5, 24)), True)
        self.assertIs(judged(prices=with_item(PRICES, 5, 18)), True)
        self.assertIs(judged(prices=with_item(PRICES, 5, 17)), False)
        self.assertIs(judged(prices=with_item(PRICES, 1, -BIG)), False)

    def test_each_width_and_each_end_counts_for_prices(self):
        # Only a piece of one width, from one index up to one end, has a lower price.
        for lower, at, high in [(0, 2, 11), (0, 3, 20), (3, 5, 26), (3, 6, 29)]:
            prices = with_item(PRICES, at, high)
            self.assertIs(judged(prices=prices), False, (lower, at))

    def test_a_room_that_is_not_the_last_price(self):
        for last in (27, 0, -BIG):
            self.assertIs(judged(prices=with_item(PRICES, 6, last)), False)
        self.assertIs(judged(PAIRS), False)
        self.assertIs(judged([(0, 3, (0, 2, 1)), (4, 0, (4, -16, 1))]), False)
        self.assertIs(judged([(0, 4, (0, 2, 1))]), False)
        self.assertIs(judged(header=9), False)
        self.assertIs(judged(header=11), False)

    def test_wrong_indexes_never_make_an_error(self):
        for wrong in (-BIG, -7, -1, 6, 7, BIG):
            self.assertIs(judged([(wrong, 3, (0, 2, 1))]), False)
            for at in range(3):
                why = tuple(with_item([0, 1, 2], at, wrong))
                self.assertIs(judged(reaches=with_reach(0, 0, (2, why))), False)
                self.assertIs(judged(reaches=with_reach(0, 0, (wrong, why))), False)


if __name__ == "__main__":
    unittest.main()
