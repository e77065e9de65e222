"""Point 5.4: the keys of two indexes, and the key nearest to an integer."""

import random
import unittest

from fewestlines.index import Index
from fewestlines.joins import common, nearest, together, without
from samples import BIG


def index_of(keys, error=1):
    return Index(keys, error, 0)


def key_lists():
    """Lists of none to many ascending keys, some of them in several lists."""
    draw = random.Random(54)
    lists = [[], [0], [7], [-BIG, BIG], [-BIG], [0, 7], list(range(20)), list(range(10, 30)), list(range(0, 60, 3))]
    for size, reach in [(5, 9), (9, 9), (30, 60), (30, 10 ** 6), (200, 300), (40, BIG)]:
        lists.append(sorted(draw.sample(range(-reach, reach + 1), size)))
    return lists


class Joins(unittest.TestCase):
    def test_small_ones(self):
        one, other = index_of([1, 2, 3, 5]), index_of([2, 4, 5, 9])
        self.assertEqual(common(one, other), [2, 5])
        self.assertEqual(without(one, other), [1, 3])
        self.assertEqual(without(other, one), [4, 9])
        self.assertEqual(together(one, other), [1, 2, 3, 4, 5, 9])

    def test_empty_indexes(self):
        one, none = index_of([3, 8]), index_of([])
        self.assertEqual([common(one, none), common(none, one), common(none, none)], [[], [], []])
        self.assertEqual([without(one, none), without(none, one), without(none, none)], [[3, 8], [], []])
        self.assertEqual([together(one, none), together(none, one), together(none, none)], [[3, 8], [3, 8], []])

    def test_equal_indexes(self):
        for keys in key_lists():
            one, other = index_of(keys), index_of(keys, 5)
            for second in (one, other):
                self.assertEqual(common(one, second), keys)
                self.assertEqual(without(one, second), [])
                self.assertEqual(together(one, second), keys)

    def test_beside_sets(self):
        for a in key_lists():
            for b in key_lists():
                one, other = index_of(a, 0), index_of(b, 3)
                self.assertEqual(common(one, other), sorted(set(a) & set(b)))
                self.assertEqual(without(one, other), sorted(set(a) - set(b)))
                self.assertEqual(together(one, other), sorted(set(a) | set(b)))
                self.assertEqual((one.stored, other.stored), (a, b))

    def test_answers_are_new_lists(self):
        one, other = index_of([1, 2, 3]), index_of([])
        for join in (together, without):
            join(one, other).clear()
            self.assertEqual(join(one, other), [1, 2, 3])
        common(one, one).clear()
        self.assertEqual(common(one, one), [1, 2, 3])
        self.assertEqual((one.stored, other.stored), ([1, 2, 3], []))

    def test_many_keys(self):
        a, b = list(range(0, 4000, 2)), [k * k for k in range(2000)]
        one, other = index_of(a), index_of(b)
        self.assertEqual(common(one, other), sorted(set(a) & set(b)))
        self.assertEqual(without(other, one), sorted(set(b) - set(a)))
        self.assertEqual(together(one, other), sorted(set(a) | set(b)))


class Nearest(unittest.TestCase):
    def test_small_ones(self):
        index = index_of([2, 4, 9, 10])
        for x, wanted in [(2, 2), (4, 4), (10, 10), (3, 2), (6, 4), (7, 9), (8, 9), (-50, 2), (1, 2), (11, 10),
                          (BIG, 10), (-BIG, 2)]:
            self.assertEqual(nearest(index, x), wanted, x)

    def test_equal_distances_give_the_smaller_one(self):
        self.assertEqual(nearest(index_of([-5, 5]), 0), -5)
        self.assertEqual(nearest(index_of([-BIG, BIG]), 0), -BIG)
        self.assertEqual(nearest(index_of([-BIG, BIG]), 1), BIG)
        self.assertEqual(nearest(index_of([-BIG, BIG]), -1), -BIG)

    def test_one_key_and_none(self):
        for x in (-BIG, -1, 0, 1, 3, BIG):
            self.assertIsNone(nearest(index_of([]), x))
            self.assertEqual(nearest(index_of([0]), x), 0)

    def test_by_trying_all_keys(self):
        for keys in key_lists()[1:]:
            index = index_of(keys, 2)
            places = {0, 1, -BIG, BIG}
            for one, other in zip(keys, keys[1:]):
                middle = (one + other) // 2
                places |= {one, other, middle - 1, middle, middle + 1, one - 1, other + 1}
            for x in places:
                self.assertEqual(nearest(index, x), min(keys, key=lambda key: (abs(key - x), key)))


if __name__ == "__main__":
    unittest.main()
