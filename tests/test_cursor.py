"""Point 16.2: cursors over the contents of a store at a moment."""

import unittest

from fewestlines.cursor import Cursor
from fewestlines.store import Store
from edits import edit, edits_of, edits_of_large_numbers, pairs_after, store_after
from samples import BIG

PAIRS = [(-4, 1), (0, 0), (3, 5), (4, 9), (10, 2)]


class Steps(unittest.TestCase):
    def setUp(self):
        # Removed keys stand beside, between and beyond the others.
        self.store = store_after(3, 0, [(7, 7), (-9, 1), (12, 3), (5, 5)] + PAIRS
                                 + [(7, None), (-9, None), (12, None), (5, None), (99, None)])
        self.cursor = Cursor(self.store)

    def test_after(self):
        for key, wanted in [(-BIG, (-4, 1)), (-10, (-4, 1)), (-5, (-4, 1)), (-4, (0, 0)), (-1, (0, 0)), (0, (3, 5)),
                            (1, (3, 5)), (3, (4, 9)), (4, (10, 2)), (5, (10, 2)), (9, (10, 2)), (10, None),
                            (11, None), (BIG, None)]:
            self.assertEqual(self.cursor.after(key), wanted, key)

    def test_before(self):
        for key, wanted in [(BIG, (10, 2)), (12, (10, 2)), (11, (10, 2)), (10, (4, 9)), (9, (4, 9)), (5, (4, 9)),
                            (4, (3, 5)), (3, (0, 0)), (2, (0, 0)), (0, (-4, 1)), (-3, (-4, 1)), (-4, None),
                            (-5, None), (-9, None), (-BIG, None)]:
            self.assertEqual(self.cursor.before(key), wanted, key)

    def test_walks(self):
        self.assertEqual(self.cursor.walk(-4, 2), [(0, 0), (3, 5)])
        self.assertEqual(self.cursor.walk(-1, 3), [(0, 0), (3, 5), (4, 9)])
        self.assertEqual(self.cursor.walk_back(10, 2), [(4, 9), (3, 5)])
        self.assertEqual(self.cursor.walk_back(9, 3), [(4, 9), (3, 5), (0, 0)])

    def test_counts(self):
        for count in (5, 6, 1000, 10 ** 20):
            self.assertEqual(self.cursor.walk(-BIG, count), PAIRS)
            self.assertEqual(self.cursor.walk_back(BIG, count), PAIRS[::-1])
            self.assertEqual(self.cursor.walk(3, count), PAIRS[3:])
            self.assertEqual(self.cursor.walk_back(3, count), PAIRS[1::-1])
        for key in (-BIG, 0, 1, BIG):
            self.assertEqual((self.cursor.walk(key, 0), self.cursor.walk_back(key, 0)), ([], []))
        self.assertEqual((self.cursor.walk(10, 4), self.cursor.walk_back(-4, 4)), ([], []))

    def test_an_empty_store(self):
        for store in (Store(2, 0), store_after(2, 0, [(1, 1), (1, None), (2, None)])):
            cursor = Cursor(store)
            for key in (-BIG, 0, 1, 2, BIG):
                self.assertEqual((cursor.after(key), cursor.before(key)), (None, None))
                self.assertEqual((cursor.walk(key, 3), cursor.walk_back(key, 3)), ([], []))

    def test_further_edits(self):
        for key, value in [(1, 1), (-4, None), (3, 8), (10, None), (200, 5), (-200, 5), (4, None), (0, None)]:
            edit(self.store, key, value)
        self.test_after()
        self.test_before()
        self.test_walks()
        self.test_counts()
        self.assertEqual(self.store.edits, 22)

    def test_lists_are_new(self):
        self.cursor.walk(-BIG, 9).clear()
        self.cursor.walk_back(BIG, 9).clear()
        self.test_counts()
        self.assertEqual(self.store.contents(), PAIRS)


class Moments(unittest.TestCase):
    def check(self, cursor, pairs, asked):
        """Compare the cursor with the pairs, one by one."""
        for key in asked:
            above = [pair for pair in pairs if pair[0] > key]
            below = [pair for pair in pairs if pair[0] < key][::-1]
            self.assertEqual(cursor.after(key), above[0] if above else None)
            self.assertEqual(cursor.before(key), below[0] if below else None)
            for count in (0, 1, 2, 5, 1000):
                self.assertEqual(cursor.walk(key, count), above[:count])
                self.assertEqual(cursor.walk_back(key, count), below[:count])

    def test_cursors_before_between_and_after_edits(self):
        for capacity in (1, 3, 10):
            edits = edits_of(capacity + 70, 120, 15, 4)
            store = Store(capacity, 1)
            cursors = [Cursor(store)]
            for key, value in edits:
                edit(store, key, value)
                cursors.append(Cursor(store))
            for made in range(0, 121, 8):
                self.check(cursors[made], pairs_after(edits[:made]), range(-17, 18))

    def test_large_numbers(self):
        edits = edits_of_large_numbers(170, 300)
        store = store_after(6, 2, edits[:150])
        cursor = Cursor(store)
        for key, value in edits[150:]:
            edit(store, key, value)
        keys = [key + way for key, _ in edits[::9] for way in (-1, 0, 1)]
        self.check(cursor, pairs_after(edits[:150]), [-BIG, 0, BIG] + keys)


if __name__ == "__main__":
    unittest.main()
