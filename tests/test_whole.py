"""The promises of the whole program, at no values, one value, and lists as large as point 0.5 says."""

import random
import unittest

from fewestlines.boxes import Boxes
from fewestlines.coded import Coded, best_error, error_of_width, room, width
from fewestlines.combine import added, part_of, repeated, scaled
from fewestlines.cursor import Cursor
from fewestlines.cuttings import cut, judge, least_count
from fewestlines.fits import fits, fitting_line, plain_fits, reason, slope_range, three_fit
from fewestlines.flat import flat_cut, judge_flat
from fewestlines.hulls import Fitter
from fewestlines.index import Index
from fewestlines.journal import Durable
from fewestlines.joins import common, nearest, together, without
from fewestlines.least import least_error, staircase
from fewestlines.lines import floor_at, line_fits, reduced
from fewestlines.plain import (PlainStore, plain_flat_count, plain_floor_sum, plain_inside, plain_rank, plain_room,
                               plain_span_count)
from fewestlines.plantext import audit_plan, read_plan, write_plan
from fewestlines.rooms import best_plan, judge_plan, plan_room
from fewestlines.saved import read_store, write_store
from fewestlines.scripts import run_script
from fewestlines.spans import judge_spans, meets, span_cut, three_meet
from fewestlines.store import Store
from fewestlines.stream import Stream
from fewestlines.sums import Outline, floor_sum
from fewestlines.view import View
from fewestlines.written import audit, read_cutting, write_cutting
from edits import edit, state
from samples import BIG, slope_bounds, value_lists

MANY = 2000


def large_lists():
    """Lists of 2000 values: scattered, bent, in steps, wavering around a straight line, up and down."""
    draw = random.Random(2000)
    return [
        [draw.randint(-BIG, BIG) for _ in range(MANY)],
        [(k - 1000) ** 2 for k in range(MANY)],
        [k // 50 * 1000 + draw.randint(-3, 3) for k in range(MANY)],
        [10 ** 14 * k - BIG + draw.randint(-10 ** 9, 10 ** 9) for k in range(MANY)],
        [(-1) ** k * BIG for k in range(MANY)],
    ]


def lists():
    """No value, one value, two values, short and large lists."""
    return [[], [0], [-BIG], [BIG, -BIG]] + value_lists()[::9] + large_lists()


def points_with_gaps(values):
    """Points of the values with narrow and wide gaps from -10 ** 18 to 10 ** 18."""
    last = max(1, len(values) - 1)
    return [(2 * BIG * at // last - BIG if at % 7 else 2 * BIG * at // last - BIG + 1, value)
            for at, value in enumerate(values)]


class Cuts(unittest.TestCase):
    def check_cut(self, points, error):
        """Points 0.2 to 3.5 for a list of points."""
        given = list(points)
        cutting = cut(points, error)
        self.assertIs(judge(points, error, cutting), True)
        self.assertEqual(audit(points, error, write_cutting(cutting)), len(cutting.pieces))
        again = read_cutting(write_cutting(cutting))
        self.assertEqual((again.pieces, again.reasons), (cutting.pieces, cutting.reasons))
        self.assertEqual(points, given)
        ends = [start for start, _ in cutting.pieces[1:]] + [len(points)]
        for at, ((start, _), end) in enumerate(zip(cutting.pieces[:20], ends)):
            piece = points[start:end]
            self.assertIs(fits(piece, error), True)
            self.assertTrue(line_fits(fitting_line(piece, error), piece, error))
            self.assertIsNone(reason(piece, error))
            if at < len(cutting.reasons):
                longer = points[start:end + 1]
                first, middle, last = reason(longer, error)
                self.assertIs(three_fit(longer[first], longer[middle], longer[last], error), False)
                self.assertEqual((fits(longer, error), fitting_line(longer, error)), (False, None))
        return len(cutting.pieces)

    def test_cuts_and_least_errors(self):
        for values in lists():
            for points in (list(enumerate(values)), points_with_gaps(values)):
                counts = [self.check_cut(points, error) for error in (0, 1, 10 ** 9, BIG)]
                self.assertEqual(counts, sorted(counts, reverse=True))
                self.assertEqual(counts[-1], min(1, len(values)))
                steps = staircase(points)
                self.assertEqual((steps[0], steps[-1][1]), ((0, counts[0]), min(1, len(values))))
                for (error, count), (further, fewer) in zip(steps[:9], steps[1:]):
                    self.assertTrue(error < further and count > fewer)
                    self.assertEqual(least_error(points, fewer), further)
                    self.assertEqual(len(cut(points, further - 1).pieces), count)
                    self.assertEqual(len(cut(points, further).pieces), fewer)

    def test_short_lists_by_trying_all_cuts(self):
        for values in [[], [7], [BIG, -BIG]] + [row[:40] for row in large_lists()]:
            points = points_with_gaps(values)
            for error in (0, 5, 10 ** 12, 6 * 10 ** 17):
                self.assertEqual(least_count(points, error), len(cut(points, error).pieces))
                self.assertEqual(plain_fits(points, error), fits(points, error))
            for error in (0, BIG) if len(points) > 1 else ():
                lower, upper = slope_range(points, error)
                wanted = slope_bounds(points, error)
                self.assertEqual((lower, upper), tuple((side.numerator, side.denominator) for side in wanted))

    def test_one_point_after_another(self):
        for values in large_lists():
            for error in (0, 10 ** 6, BIG):
                fitter, stream = Fitter(error), Stream(error)
                count = 0
                while count < MANY and fitter.add((count, values[count])):
                    count += 1
                self.assertEqual(fitter.count, count)
                self.assertTrue(line_fits(fitter.line(), list(enumerate(values[:count])), error))
                closed = [stream.push(value) for value in values]
                cutting = cut(list(enumerate(values)), error)
                self.assertEqual([start for start, _ in stream.pieces()], [start for start, _ in cutting.pieces])
                self.assertEqual([piece for piece in closed if piece], stream.pieces()[:-1])
                low, high = stream.forecast(1000) or (0, 0)
                self.assertLessEqual(low, high)

    def test_flat_pieces_and_spans(self):
        for values in lists():
            for error in (0, 10 ** 6, BIG):
                flat = flat_cut(values, error)
                self.assertIs(judge_flat(values, error, flat), True)
                short = values[:40]
                self.assertEqual(len(flat_cut(short, error).pieces), plain_flat_count(short, error))
                spans = [(place, value - error, value + error // 2) for place, value in points_with_gaps(values)]
                cutting = span_cut(spans)
                self.assertIs(judge_spans(spans, cutting), True)
                self.assertEqual(len(span_cut(spans[:40]).pieces), plain_span_count(spans[:40]))
                for (start, line), _ in zip(cutting.pieces, range(20)):
                    self.assertIs(meets(line, spans[start]), True)
                for one, two, three in cutting.reasons:
                    self.assertIs(three_meet(spans[one], spans[two], spans[three]), False)


class Codes(unittest.TestCase):
    def test_coded_lists(self):
        for values in lists():
            for error in (0, 3, 10 ** 9, BIG):
                coded = Coded(values, error)
                self.assertEqual(coded.decoded(), values)
                self.assertTrue(all(abs(correction) <= error for correction in coded.corrections))
                for index in range(0, len(values), 97):
                    self.assertEqual(coded.value_at(index), values[index])
            for header in (0, 100, 10 ** 6):
                best = best_error(values, header)
                least = room(values, best, header)
                for error in [0, 1, BIG] + [error_of_width(digits) for digits in range(0, 62, 6)]:
                    self.assertLessEqual(least, room(values, error, header))
                if best > 0:
                    self.assertGreater(room(values, best - 1, header), least)

    def test_widths(self):
        for digits in range(101):
            error = error_of_width(digits)
            self.assertLessEqual(width(error), digits)
            self.assertGreater(width(error + 1), digits)

    def test_plans(self):
        for values in lists():
            for header in (0, 12, 10 ** 6):
                plan = best_plan(values, header)
                self.assertIs(judge_plan(values, header, plan), True)
                self.assertEqual(plan_room(values, header, plan), plan.prices[-1])
                self.assertEqual(len(plan.prices), len(values) + 1)
                short = values[:20]
                self.assertEqual(best_plan(short, header).prices[-1], plain_room(short, header))
                self.assertEqual(plan.prices[len(short)], plain_room(short, header))
            text = write_plan(plan)
            again = read_plan(text)
            self.assertEqual((again.pieces, again.reaches, again.prices), (plan.pieces, plan.reaches, plan.prices))
            self.assertEqual(audit_plan(values, header, text), plan.prices[-1])

    def test_outlines_and_floor_sums(self):
        draw = random.Random(120)
        for values in lists():
            for error in (0, 10 ** 6, BIG):
                outline = Outline(values, error)
                for _ in range(10):
                    a, b = sorted((draw.randint(0, len(values)), draw.randint(0, len(values))))
                    low, high = outline.sum_bounds(a, b)
                    self.assertTrue(low <= sum(values[a:b]) <= high)
                    self.assertEqual(high - low, 2 * error * (b - a))
                    if a == b:
                        self.assertEqual((outline.least_bounds(a, b), outline.greatest_bounds(a, b)), (None, None))
                        continue
                    for bounds, real in ((outline.least_bounds(a, b), min(values[a:b])),
                                         (outline.greatest_bounds(a, b), max(values[a:b])),
                                         (outline.value_bounds(a), values[a])):
                        self.assertTrue(bounds[0] <= real <= bounds[1] == bounds[0] + 2 * error)
                    above = [index for index in range(a, b) if values[index] > 7]
                    self.assertLessEqual(set(outline.surely_above(a, b, 7)), set(above))
                    self.assertLessEqual(set(above), set(outline.perhaps_above(a, b, 7)))
        for count in (0, 1, 40, 10 ** 9):
            for p, q, d in ((3, -5, 7), (-BIG, BIG, 10 ** 9 + 7), (10 ** 40, -10 ** 50, 10 ** 45 + 1), (0, 0, 1)):
                if count < 50:
                    self.assertEqual(floor_sum(count, p, q, d), plain_floor_sum(count, p, q, d))
                doubled = floor_sum(2 * count, p, q, d)
                self.assertEqual(doubled, floor_sum(count, p, q, d) + floor_sum(count, p, q + p * count, d))

    def test_combined_pieces(self):
        for values, others in zip(large_lists(), large_lists()[1:]):
            one, other = cut(list(enumerate(values)), 9).pieces, cut(list(enumerate(others)), 90).pieces
            points = [(at, a + b) for at, (a, b) in enumerate(zip(values, others))]
            for pieces, rows, error in ((added(one, other), points, 99),
                                        (scaled(one, -1000), [(at, -1000 * a) for at, a in enumerate(values)], 9000),
                                        (part_of(one, 5, 1999), list(enumerate(values[5:1999])), 9),
                                        (repeated(one, MANY, 3), list(enumerate(values * 3)), 9)):
                ends = [start for start, _ in pieces[1:]] + [len(rows)]
                self.assertEqual(pieces[0][0], 0)
                for (start, line), end in zip(pieces, ends):
                    self.assertTrue(start < end and line == reduced(line))
                    self.assertTrue(line_fits(line, rows[start:end], error))
        self.assertEqual((part_of([(0, (1, 0, 1))], 3, 3), repeated([(0, (1, 0, 1))], 1, 0)), ([], []))


class Keys(unittest.TestCase):
    def test_indexes(self):
        draw = random.Random(50)
        rows = [[], [0], [-BIG, BIG], list(range(MANY)), [k ** 5 for k in range(MANY)],
                sorted(draw.sample(range(-BIG, BIG), MANY))]
        for stored in rows:
            for error, upper in ((0, 0), (2, 1), (BIG, 0)):
                index = Index(stored, error, upper)
                levels = index.level_keys()
                self.assertEqual(levels[0], stored)
                self.assertLessEqual(index.pieces()[-1], 1)
                for x in [-BIG, 0, BIG] + [key + way for key in stored[::71] for way in (-1, 0, 1)]:
                    rank, looks = index.look_up(x)
                    self.assertEqual(rank, plain_rank(stored, x))
                    for level in range(len(levels)):
                        most = (2 * (upper if level else error) + 2).bit_length() + (level == len(levels) - 1)
                        self.assertLessEqual(len([look for look in looks if look[0] == level]), most)
                    self.assertEqual((index.rank(x), index.has(x)), (rank, x in stored[max(0, rank - 1):rank]))
                    self.assertEqual(index.at_most(x), index.key_at(rank - 1))
                    self.assertEqual(index.count(x, BIG), len(stored) - plain_rank(stored, x - 1))
                    if stored:
                        near = min(stored[max(0, rank - 1):rank + 1], key=lambda key: (abs(key - x), key))
                        self.assertEqual(nearest(index, x), near)
                self.assertEqual((common(index, index), without(index, index), together(index, index)),
                                 (stored, [], stored))

    def test_stores(self):
        draw = random.Random(60)
        for capacity in (1, 64, 1000):
            store, plain, durable = Store(capacity, 2), PlainStore(), Durable(capacity, 2)
            view = None
            for made in range(MANY):
                key, value = draw.randint(-BIG, BIG) >> draw.choice([0, 0, 50]), draw.randint(-BIG, BIG)
                value = value if draw.randrange(4) else None
                for one in (store, plain, durable):
                    edit(one, key, value)
                self.assertEqual(store.get(key), value)
                if made == MANY // 2:
                    view, pairs = View(store), plain.contents()
                    durable.sync()
            self.assertEqual(store.contents(), plain.contents())
            self.assertEqual(state(durable.store), state(store))
            self.assertEqual(state(read_store(write_store(store))), state(store))
            self.assertLessEqual(store.moves, MANY * MANY.bit_length())
            self.assertEqual((view.contents(), view.edits), (pairs, MANY // 2 + 1))
            changed = dict(pairs)
            for key, value in view.changes(View(store)):
                self.assertNotEqual(changed.get(key), value)
                changed[key] = value
            self.assertEqual(sorted(pair for pair in changed.items() if pair[1] is not None), plain.contents())
            self.assertEqual(Cursor(store).walk(-2 * BIG, MANY), plain.contents())
            self.assertEqual(Cursor(store).walk_back(2 * BIG, MANY), plain.contents()[::-1])
            durable.crash(0)
            self.assertEqual((durable.store.contents(), durable.store.edits), (pairs, MANY // 2 + 1))

    def test_scripts(self):
        lines = ["store 32 1"] + [f"put {k * BIG // MANY} {-k}" for k in range(1990)]
        answers = run_script("\n".join(lines + ["count", "sizes", "get 0", f"get {BIG // MANY}", "between 0 0", "all"]))
        self.assertEqual(answers[:5], ["1990", "6 0 64 128 256 512 1024", "0", "-1", "0:0"])
        self.assertEqual(answers[5].count(":"), 1990)

    def test_boxes(self):
        draw = random.Random(150)
        side = 2 ** 20
        points = sorted({(draw.randrange(side), draw.randrange(side)) for _ in range(MANY)})
        boxes = Boxes(points, 20, 3)
        for box in [(0, side, 0, side), (5, 4, 0, side), (-10 ** 9, side // 2, side // 3, 10 ** 9),
                    (points[0][0], points[9][0], 0, side), (0, side, points[7][1], points[7][1])]:
            self.assertEqual(sorted(boxes.inside(box)), plain_inside(points, box))
            self.assertEqual(boxes.count(box), len(plain_inside(points, box)))

    def test_floors_of_great_lines(self):
        self.assertEqual(floor_at((10 ** 40, -1, 10 ** 30), -BIG), -10 ** 28 - 1)


if __name__ == "__main__":
    unittest.main()
