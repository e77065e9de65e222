"""Points 5.1 to 5.4: the index, its levels, its looks and its questions."""

import random
import unittest
from bisect import bisect_left, bisect_right

from fewestlines.index import Index
from samples import BIG, greedy_starts

ERRORS = [(0, 0), (0, 3), (1, 0), (2, 1), (7, 7), (1000, 0)]


class Watched(int):
    """A key that notes each comparison with it."""

    seen = []

    def noted(self, answer):
        self.seen.append(int(self))
        return answer

    def __lt__(self, other):
        return self.noted(int(self) < other)

    def __le__(self, other):
        return self.noted(int(self) <= other)

    def __gt__(self, other):
        return self.noted(int(self) > other)

    def __ge__(self, other):
        return self.noted(int(self) >= other)

    def __eq__(self, other):
        return self.noted(int(self) == other)

    __hash__ = int.__hash__


def key_lists():
    """Lists of none to many ascending keys, near to each other and far apart."""
    draw = random.Random(50)
    lists = [[], [0], [-BIG], [BIG], [-BIG, BIG], [5, 6], [-1, 0, 1]]
    lists.append(list(range(-30, 70)))
    lists.append([k * k for k in range(60)])
    lists.append([3 ** k for k in range(37)])
    lists.append([-(3 ** k) for k in range(37)][::-1])
    for size in (3, 10, 40, 150):
        for reach in (size, 3 * size, 10 ** 6, BIG):
            lists.append(sorted(draw.sample(range(-reach, reach + 1), size)))
    # Steps and wide gaps: behind its last key a piece's line runs far beyond it.
    lists.append([base + k for base in range(0, 10 ** 6, 10 ** 5) for k in range(7)])
    lists.append([base * base * base + k * k for base in range(0, 9000, 700) for k in range(5)])
    return lists


def asked(stored):
    """Integers on, beside, between, below and above the keys."""
    places = {0, -BIG, BIG}
    for key in stored:
        places |= {key - 1, key, key + 1}
    for one, other in zip(stored, stored[1:]):
        places.add((one + other) // 2)
    if stored:
        places |= {stored[0] - 10 ** 6, stored[-1] + 10 ** 6}
    return sorted(places)


class Levels(unittest.TestCase):
    def test_keys_and_pieces_of_all_levels(self):
        high = 0
        for stored in key_lists():
            for error, upper in ERRORS:
                levels, pieces = [list(stored)], []
                while True:
                    points = [(key, k) for k, key in enumerate(levels[-1])]
                    starts = greedy_starts(points, upper if pieces else error)
                    pieces.append(len(starts))
                    if len(starts) < 2:
                        break
                    levels.append([levels[-1][start] for start in starts])
                index = Index(stored, error, upper)
                self.assertEqual(index.level_keys(), levels)
                self.assertEqual(index.pieces(), pieces)
                high = max(high, len(levels))
        self.assertGreater(high, 3)

    def test_no_keys_and_one_key(self):
        self.assertEqual(Index([], 0, 0).level_keys(), [[]])
        self.assertEqual(Index([], 0, 0).pieces(), [0])
        self.assertEqual(Index([9], 4, 4).level_keys(), [[9]])
        self.assertEqual(Index([9], 4, 4).pieces(), [1])

    def test_the_list_is_copied_and_answers_are_new(self):
        stored = [1, 4, 9, 16, 25, 36]
        index = Index(stored, 0, 0)
        self.assertEqual(stored, [1, 4, 9, 16, 25, 36])
        stored[0] = 7
        stored.append(99)
        self.assertEqual(index.stored, [1, 4, 9, 16, 25, 36])
        self.assertEqual((index.rank(8), index.has(1), index.has(99)), (2, True, False))
        levels, pieces = index.level_keys(), index.pieces()
        kept = [list(keys) for keys in levels], list(pieces)
        for keys in levels:
            keys.clear()
        levels.clear()
        pieces.clear()
        index.look_up(10)[1].clear()
        self.assertEqual((index.level_keys(), index.pieces()), kept)
        self.assertEqual(index.stored, [1, 4, 9, 16, 25, 36])
        self.assertEqual(index.rank(10), 3)


class Looks(unittest.TestCase):
    def check_looks(self, looks, levels, errors, below):
        self.assertIsInstance(looks, list)
        for level, position in looks:
            self.assertTrue(0 <= level < len(levels))
            self.assertTrue(0 <= position < len(levels[level]))
        order = [level for level, _ in looks]
        self.assertEqual(order, sorted(order, reverse=True))
        top = len(levels) - 1
        if below:
            self.assertIn(looks, ([], [(top, 0)]))
        for level, error in enumerate(errors):
            most = (2 * error + 2).bit_length() + (level == top)
            self.assertLessEqual(order.count(level), most)

    def test_ranks_and_looks(self):
        for stored in key_lists():
            for error, upper in ERRORS:
                index = Index(stored, error, upper)
                levels = index.level_keys()
                errors = [error] + [upper] * (len(levels) - 1)
                for x in asked(stored):
                    answer = index.look_up(x)
                    self.assertIsInstance(answer, tuple)
                    rank, looks = answer
                    self.assertEqual(rank, bisect_right(stored, x), (stored, x))
                    self.assertEqual(index.rank(x), rank)
                    if stored:
                        self.check_looks(looks, levels, errors, x < stored[0])
                    else:
                        self.assertEqual(looks, [])

    def test_looks_are_the_comparisons_that_were_made(self):
        most = 0
        for stored in key_lists():
            for error, upper in ERRORS:
                index = Index([Watched(key) for key in stored], error, upper)
                levels = Index(stored, error, upper).level_keys()
                for x in asked(stored)[::3]:
                    Watched.seen.clear()
                    _, looks = index.look_up(x)
                    compared = list(Watched.seen)
                    self.assertEqual(compared, [levels[level][at] for level, at in looks])
                    most = max(most, len(looks))
        self.assertGreater(most, 5)

    def test_two_thousand_keys(self):
        draw = random.Random(51)
        stored = sorted(draw.sample(range(-BIG, BIG), 2000))
        for error, upper in ((0, 0), (20, 4)):
            index = Index(stored, error, upper)
            levels = index.level_keys()
            errors = [error] + [upper] * (len(levels) - 1)
            for x in asked(stored)[::7]:
                rank, looks = index.look_up(x)
                self.assertEqual(rank, bisect_right(stored, x))
                self.check_looks(looks, levels, errors, x < stored[0])


class Questions(unittest.TestCase):
    def test_keys_at_and_beside(self):
        for stored in key_lists():
            for error, upper in ((0, 0), (3, 1)):
                index = Index(stored, error, upper)
                for x in asked(stored):
                    self.assertIs(index.has(x), x in stored)
                    place = bisect_right(stored, x)
                    self.assertEqual(index.at_most(x), stored[place - 1] if place else None)
                    place = bisect_left(stored, x)
                    right = stored[place] if place < len(stored) else None
                    self.assertEqual(index.at_least(x), right)

    def test_numbers_between(self):
        for stored in key_lists():
            index = Index(stored, 1, 1)
            places = asked(stored)
            for a in places[::5]:
                for b in places[::7] + [a - 1, a, a + 1]:
                    right = len([key for key in stored if a <= key <= b])
                    self.assertEqual(index.count(a, b), right, (stored, a, b))

    def test_a_above_b(self):
        index = Index([1, 2, 3, 50], 0, 0)
        for a, b in [(3, 2), (2, 1), (50, 1), (60, -60), (BIG, -BIG), (40, 30)]:
            self.assertEqual(index.count(a, b), 0)
        self.assertEqual(index.count(2, 2), 1)
        self.assertEqual(index.count(4, 4), 0)
        self.assertEqual(index.count(-BIG, BIG), 4)

    def test_no_keys(self):
        index = Index([], 2, 2)
        self.assertEqual(index.look_up(5), (0, []))
        self.assertEqual(index.rank(5), 0)
        self.assertIs(index.has(5), False)
        self.assertEqual(index.count(-5, 5), 0)
        self.assertIsNone(index.at_most(5))
        self.assertIsNone(index.at_least(5))
        self.assertIsNone(index.key_at(0))

    def test_indexes_of_keys(self):
        for stored in key_lists():
            index = Index(stored, 1, 0)
            self.assertEqual([index.key_at(k) for k in range(len(stored))], stored)
            for wrong in (-1, -2, -len(stored), -len(stored) - 1, -BIG, len(stored), len(stored) + 1, BIG):
                if not 0 <= wrong < len(stored):
                    self.assertIsNone(index.key_at(wrong), wrong)


if __name__ == "__main__":
    unittest.main()
