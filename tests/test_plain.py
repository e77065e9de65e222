"""The plain answers of plain.py, beside the quick ones of the same promises."""

import random
import unittest

from fewestlines.boxes import Boxes, code_of
from fewestlines.flat import flat_cut
from fewestlines.index import Index
from fewestlines.plain import (PlainStore, plain_flat_count, plain_floor_sum, plain_inside, plain_rank, plain_room,
                               plain_span_count)
from fewestlines.rooms import best_plan, plan_room
from fewestlines.spans import span_cut
from fewestlines.store import Store
from fewestlines.sums import floor_sum
from edits import edit, edits_of, edits_of_large_numbers, pairs_after
from samples import BIG, fewest_pieces, pairs_fit, span_lists, value_lists


class Ranks(unittest.TestCase):
    def test_small_ones(self):
        self.assertEqual([plain_rank([2, 5, 6], x) for x in (-BIG, 1, 2, 4, 5, 6, 7, BIG)], [0, 0, 1, 1, 2, 3, 3, 3])
        self.assertEqual([plain_rank([], 0), plain_rank([3], 2), plain_rank([3], 3)], [0, 0, 1])

    def test_beside_an_index(self):
        draw = random.Random(190)
        for size in (0, 1, 2, 10, 40):
            for reach in (40, 10 ** 6, BIG):
                stored = sorted(draw.sample(range(-reach, reach + 1), size))
                index = Index(stored, draw.randint(0, 3), draw.randint(0, 3))
                for x in [-BIG, 0, BIG] + [key + way for key in stored for way in (-1, 0, 1)]:
                    self.assertEqual(plain_rank(stored, x), index.rank(x))


class Counts(unittest.TestCase):
    def test_flat_counts(self):
        self.assertEqual([plain_flat_count([], 5), plain_flat_count([9], 0), plain_flat_count([1, 2], 0)], [0, 1, 2])
        self.assertEqual([plain_flat_count([0, 2, 4, 1], 1), plain_flat_count([0, 2, 4, 1], 2)], [3, 1])
        for values in value_lists():
            for error in (0, 1, 2, 15, 10 ** 6, BIG):
                wanted = len(flat_cut(values, error).pieces)
                self.assertEqual(plain_flat_count(values, error), wanted)
                if len(values) < 8:
                    right = lambda piece: max(piece) - min(piece) <= 2 * error
                    self.assertEqual(fewest_pieces(values, right), wanted)

    def test_span_counts(self):
        self.assertEqual([plain_span_count([]), plain_span_count([(3, -1, 4)])], [0, 1])
        self.assertEqual(plain_span_count([(0, 0, 0), (1, 1, 1), (2, 2, 2), (3, 9, 9), (4, 9, 9)]), 2)
        self.assertEqual(plain_span_count([(0, 0, 0), (1, 1, 1), (2, 2, 9), (3, 3, 9), (4, 0, 4)]), 1)
        for spans in span_lists():
            self.assertEqual(plain_span_count(spans), len(span_cut(spans).pieces))

    def test_forty_items(self):
        draw = random.Random(191)
        for spread in (2, 50, BIG):
            values = [k * spread // 4 + draw.randint(-spread, spread) for k in range(40)]
            for error in (0, spread // 2, 10 * spread):
                self.assertEqual(plain_flat_count(values, error), len(flat_cut(values, error).pieces))
                spans = [(3 * k, value - error, value + error) for k, value in enumerate(values)]
                self.assertEqual(plain_span_count(spans), len(span_cut(spans).pieces))


class Rooms(unittest.TestCase):
    def check(self, values, header):
        plan = best_plan(values, header)
        room = plain_room(values, header)
        self.assertEqual(room, plan.prices[-1])
        self.assertEqual(room, plan_room(values, header, plan))

    def test_small_ones(self):
        self.assertEqual([plain_room([], 7), plain_room([5], 7), plain_room([5, -BIG], 7)], [0, 7, 7])
        self.assertEqual([plain_room([0, 4, 0, 4, 0, 4], header) for header in (0, 5, 10)], [0, 15, 28])

    def test_by_each_set_of_starts(self):
        for values in value_lists():
            if 0 < len(values) < 8:
                for header in (0, 3, 20):
                    self.assertEqual(plain_room(values, header), self.by_starts(values, header))

    def by_starts(self, values, header):
        """The least room over each set of starts, with the least width of each piece."""
        points = list(enumerate(values))
        needed = {}
        for a in range(len(points)):
            for b in range(a + 1, len(points) + 1):
                digits = 0
                while not pairs_fit(points[a:b], 2 ** max(0, digits - 1) - 1):
                    digits += 1
                needed[a, b] = header + (b - a) * digits
        rooms = []
        for chosen in range(2 ** (len(points) - 1)):
            starts = [0] + [k + 1 for k in range(len(points) - 1) if chosen >> k & 1]
            rooms.append(sum(needed[a, b] for a, b in zip(starts, starts[1:] + [len(points)])))
        return min(rooms)

    def test_beside_plans(self):
        for values in value_lists():
            for header in (0, 1, 8, 100):
                self.check(values, header)

    def test_forty_values(self):
        draw = random.Random(192)
        for spread in (1, 12, 1000, BIG):
            values = [draw.randint(-spread, spread) for _ in range(40)]
            for header in (0, 6, 10 ** 6):
                self.check(values, header)
        self.check([k * k * k for k in range(40)], 9)
        self.check([2 ** (40 - k) for k in range(40)], 25)


class FloorSums(unittest.TestCase):
    def test_small_ones(self):
        self.assertEqual(plain_floor_sum(0, 5, 5, 5), 0)
        self.assertEqual(plain_floor_sum(4, 1, 0, 2), 0 + 0 + 1 + 1)
        self.assertEqual(plain_floor_sum(4, -1, 0, 2), 0 - 1 - 1 - 2)
        self.assertEqual(plain_floor_sum(3, 0, -1, 4), -3)

    def test_beside_the_quick_one(self):
        draw = random.Random(193)
        for bound in (3, 20, 10 ** 6, 10 ** 40):
            for count in (0, 1, 2, 7, 40):
                for _ in range(20):
                    p, q, d = draw.randint(-bound, bound), draw.randint(-bound, bound), draw.randint(1, bound)
                    self.assertEqual(plain_floor_sum(count, p, q, d), floor_sum(count, p, q, d))


class Insides(unittest.TestCase):
    def test_small_ones(self):
        points = [(3, 1), (0, 2), (1, 5), (1, 1), (2, 0)]
        self.assertEqual(plain_inside(points, (0, 9, 0, 9)), [(0, 2), (1, 1), (1, 5), (2, 0), (3, 1)])
        self.assertEqual(plain_inside(points, (1, 3, 1, 5)), [(1, 1), (1, 5), (3, 1)])
        self.assertEqual([plain_inside(points, (2, 1, 0, 9)), plain_inside([], (0, 9, 0, 9))], [[], []])
        self.assertEqual(points, [(3, 1), (0, 2), (1, 5), (1, 1), (2, 0)])

    def test_beside_boxes(self):
        draw = random.Random(194)
        for bits in (0, 1, 3, 8, 20):
            side = 2 ** bits
            points = list({(draw.randrange(side), draw.randrange(side)) for _ in range(40)})
            boxes = Boxes(points, bits, 1)
            for _ in range(60):
                box = tuple(draw.randint(-2, side + 1) for _ in range(4))
                if draw.randrange(3):
                    box = (min(box[:2]), max(box[:2]), min(box[2:]), max(box[2:]))
                found = plain_inside(points, box)
                self.assertEqual(found, sorted(boxes.inside(box)))
                self.assertEqual(len(found), boxes.count(box))
                self.assertEqual(sorted(found, key=lambda point: code_of(*point, bits)), boxes.inside(box))


class PlainStores(unittest.TestCase):
    def test_a_new_one(self):
        store = PlainStore()
        self.assertEqual((store.get(0), store.contents()), (None, []))
        self.assertIsNone(store.remove(5))
        self.assertIsNone(store.put(5, 0))
        self.assertEqual((store.get(5), store.contents()), (0, [(5, 0)]))
        self.assertIsNone(store.remove(5))
        self.assertEqual((store.get(5), store.contents()), (None, []))

    def test_beside_a_store_and_a_dictionary(self):
        for edits in (edits_of(195, 200, 10, 4), edits_of(196, 200, 1000), edits_of_large_numbers(197, 200)):
            for capacity in (1, 6, 1000):
                store, plain = Store(capacity, 1), PlainStore()
                for made, (key, value) in enumerate(edits, 1):
                    edit(store, key, value)
                    edit(plain, key, value)
                    self.assertEqual(plain.contents(), pairs_after(edits[:made]))
                    self.assertEqual(plain.contents(), store.contents())
                    for asked in (key, key + 1, edits[made // 2][0]):
                        self.assertEqual(plain.get(asked), store.get(asked))

    def test_lists_are_new_and_stores_their_own(self):
        store = PlainStore()
        store.put(1, 2)
        store.contents().clear()
        self.assertEqual(store.contents(), [(1, 2)])
        self.assertEqual(PlainStore().contents(), [])


if __name__ == "__main__":
    unittest.main()
