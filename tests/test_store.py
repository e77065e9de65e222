"""Points 6.1 to 6.4: the store beside a plain dictionary, and the sizes of its runs."""

import random
import unittest

from fewestlines.store import Store
from edits import edit, edits_of
from samples import BIG


class Model:
    """The rules of point 6.2 with dictionaries: a buffer, and one or no run for each level."""

    def __init__(self, capacity):
        self.capacity = capacity
        self.buffer = {}
        self.runs = {}
        self.moves = 0

    def write(self, key, value):
        self.buffer[key] = value
        if len(self.buffer) == self.capacity:
            self.flush()

    def flush(self):
        level = 0
        run = self.buffer
        self.moves += len(run)
        while level in self.runs:
            older = self.runs.pop(level)
            self.moves += len(older)
            run = {**older, **run}
            level += 1
        if not [other for other in self.runs if other > level]:
            run = {key: value for key, value in run.items() if value is not None}
        if run:
            self.runs[level] = run
        self.buffer = {}

    def sizes(self):
        most = max(self.runs, default=-1)
        return [len(self.runs.get(level, {})) for level in range(most + 1)]


class Edits(unittest.TestCase):
    def follow(self, capacity, error, edits, questions):
        """Make the edits in a store, a plain dictionary and the model, and compare after each one."""
        store, plain, model = Store(capacity, error), {}, Model(capacity)
        for made, (key, value) in enumerate(edits, 1):
            if value is None:
                self.assertIsNone(store.remove(key))
                plain.pop(key, None)
            else:
                self.assertIsNone(store.put(key, value))
                plain[key] = value
            model.write(key, value)
            self.assertEqual(store.contents(), sorted(plain.items()))
            self.assertEqual(store.get(key), value)
            for asked in questions:
                self.assertEqual(store.get(asked), plain.get(asked))
            self.assertEqual(store.run_sizes(), model.sizes())
            self.assertEqual(store.buffered(), len(model.buffer))
            self.assertEqual((store.moves, store.edits), (model.moves, made))
            digits = made.bit_length()
            self.assertLessEqual(store.moves, made * digits)
            self.assertLessEqual(len([size for size in store.run_sizes() if size]), digits)
        return store, plain

    def test_a_plain_dictionary_beside_it(self):
        draw = random.Random(60)
        for capacity in (1, 2, 3, 4, 7, 30):
            for error in (0, 1, 5):
                for keys, removals in ((6, 5), (40, 3), (400, 1)):
                    edits = []
                    for _ in range(120):
                        value = None if draw.randint(0, 9) < removals else draw.randint(-9, 9)
                        edits.append((draw.randint(-keys, keys), value))
                    self.follow(capacity, error, edits, range(-keys - 1, keys + 2, 1 + keys // 9))

    def test_great_numbers(self):
        draw = random.Random(61)
        edits = [(draw.choice([-BIG, BIG, 0, draw.randint(-BIG, BIG)]), draw.randint(-BIG, BIG))
                 for _ in range(200)]
        edits[50:60] = [(key, None) for key, _ in edits[40:50]]
        self.follow(4, 2, edits, [-BIG, 0, BIG])

    def test_ascending_keys_fill_the_runs_like_a_counter(self):
        for capacity in (1, 3):
            store = Store(capacity, 0)
            for flushes in range(1, 40):
                for k in range(capacity):
                    store.put(flushes * capacity + k, k)
                sizes = [capacity << k if flushes >> k & 1 else 0 for k in range(flushes.bit_length())]
                self.assertEqual(store.run_sizes(), sizes)
                self.assertEqual(store.buffered(), 0)

    def test_removing_only(self):
        edits = [(key, None) for key in (5, 5, -1, 0, 5, 9, 2, 3)]
        for capacity in (1, 2, 3, 20):
            store, _ = self.follow(capacity, 0, edits, [5, 6])
            self.assertEqual(store.run_sizes(), [])
            self.assertEqual(store.edits, 8)

    def test_between(self):
        draw = random.Random(62)
        edits = [(draw.randint(-40, 40), draw.choice([None, 1, 2, 3])) for _ in range(150)]
        for capacity in (1, 4, 11, 1000):
            store, plain = self.follow(capacity, 1, edits, [])
            for a in range(-43, 44, 3):
                for b in list(range(-43, 44, 4)) + [a - 1, a, a + 1]:
                    right = [(key, plain[key]) for key in sorted(plain) if a <= key <= b]
                    self.assertEqual(store.between(a, b), right)
            self.assertEqual(store.between(-BIG, BIG), store.contents())
            self.assertEqual(store.between(BIG, -BIG), [])

    def test_two_thousand_edits(self):
        draw = random.Random(63)
        store, plain = Store(1, 3), {}
        for _ in range(2000):
            key = draw.randint(-BIG, BIG)
            store.put(key, -key)
            plain[key] = -key
        self.assertEqual(store.contents(), sorted(plain.items()))
        for key in list(plain)[::3]:
            self.assertEqual((store.get(key), store.get(key + 1)), (-key, plain.get(key + 1)))

    def test_large_capacities(self):
        for capacity in (100, 1000):
            for keys, removals in ((700, 5), (3000, 2), (BIG, 1)):
                store, plain, model = Store(capacity, 2), {}, Model(capacity)
                flushes = 0
                for made, (key, value) in enumerate(edits_of(keys % 1000, 5000, keys, removals), 1):
                    edit(store, key, value)
                    plain[key] = value
                    model.write(key, value)
                    self.assertEqual((store.moves, store.edits, store.buffered()),
                                     (model.moves, made, len(model.buffer)))
                    self.assertLessEqual(store.moves, made * made.bit_length())
                    self.assertEqual(store.get(key), value)
                    if made % 250 == 1 or not model.buffer and made > 1000:
                        flushes += not model.buffer
                        self.compare(store, plain, model, made)
                self.assertGreater(flushes, 0)

    def compare(self, store, plain, model, made):
        """Compare a store with what it must hold after so many edits."""
        pairs = sorted((key, value) for key, value in plain.items() if value is not None)
        self.assertEqual(store.contents(), pairs)
        self.assertEqual(store.run_sizes(), model.sizes())
        self.assertLessEqual(len([size for size in store.run_sizes() if size]), made.bit_length())
        for key in list(plain)[::max(1, len(plain) // 40)]:
            self.assertEqual((store.get(key), store.get(key + 1)), (plain[key], plain.get(key + 1)))
        middle = pairs[len(pairs) // 3:2 * len(pairs) // 3 + 1]
        if middle:
            self.assertEqual(store.between(middle[0][0], middle[-1][0]), middle)


class Rules(unittest.TestCase):
    def test_a_new_store(self):
        store = Store(5, 2)
        self.assertEqual((store.capacity, store.error, store.moves, store.edits), (5, 2, 0, 0))
        self.assertEqual((store.contents(), store.run_sizes(), store.buffered()), ([], [], 0))
        self.assertEqual((store.get(0), store.between(-9, 9)), (None, []))

    def test_an_entry_over_that_of_the_buffer(self):
        store = Store(2, 0)
        for value in range(5):
            store.put(7, value)
        self.assertEqual((store.buffered(), store.run_sizes(), store.edits, store.moves), (1, [], 5, 0))
        store.remove(7)
        self.assertEqual((store.buffered(), store.contents()), (1, []))
        store.put(8, 0)
        self.assertEqual((store.buffered(), store.run_sizes(), store.moves), (0, [1], 2))
        self.assertEqual(store.get(8), 0)

    def test_removed_keys_are_kept_above_another_run(self):
        store = Store(2, 0)
        for key in (1, 2, 3, 4):
            store.put(key, key)
        self.assertEqual(store.run_sizes(), [0, 4])
        store.remove(1)
        store.remove(2)
        self.assertEqual(store.run_sizes(), [2, 4])
        self.assertEqual(store.contents(), [(3, 3), (4, 4)])
        store.put(2, 9)
        store.put(5, 5)
        # All runs are merged, none is below: the entry of the removed key 1 is left out.
        self.assertEqual(store.run_sizes(), [0, 0, 4])
        self.assertEqual(store.contents(), [(2, 9), (3, 3), (4, 4), (5, 5)])
        self.assertEqual(store.moves, 2 + 4 + 2 + 8)

    def test_a_merged_run_without_entries_is_not_kept(self):
        store = Store(1, 0)
        store.put(1, 1)
        store.remove(1)
        self.assertEqual((store.run_sizes(), store.moves), ([], 3))
        store.put(2, 2)
        self.assertEqual((store.run_sizes(), store.moves), ([1], 4))

    def test_answers_are_new_lists(self):
        store = Store(2, 0)
        for key in (1, 2, 3, 4, 5):
            store.put(key, 10 * key)
        for _ in range(2):
            for answer in (store.contents(), store.between(1, 9)):
                self.assertEqual(answer, [(key, 10 * key) for key in (1, 2, 3, 4, 5)])
                answer.clear()
            sizes = store.run_sizes()
            self.assertEqual(sizes, [0, 4])
            sizes.clear()

    def test_entries_of_the_buffer_and_of_the_levels(self):
        store = Store(2, 0)
        self.assertEqual((store.buffer_entries(), store.level_entries()), ([], []))
        for key in (1, 2, 3, 4, 5):
            store.put(key, 10 * key)
        store.write(4, None)
        store.write(6, 60)
        for _ in range(2):
            buffer, levels = store.buffer_entries(), store.level_entries()
            self.assertEqual(buffer, [(6, 60)])
            self.assertEqual(levels, [[(4, None), (5, 50)], [(1, 10), (2, 20), (3, 30), (4, 40)]])
            buffer.clear()
            levels[1].clear()
            levels.clear()

    def test_restoring(self):
        store = Store(3, 0)
        buffer, levels = [(9, None)], [[], [(1, 1), (9, 9)]]
        store.restore(7, 12, buffer, levels)
        buffer.clear()
        levels[1].clear()
        levels.clear()
        self.assertEqual((store.edits, store.moves, store.contents()), (7, 12, [(1, 1)]))
        self.assertEqual((store.buffered(), store.run_sizes()), (1, [0, 2]))

    def test_questions_change_nothing(self):
        store = Store(2, 0)
        for key in (1, 2, 3):
            store.put(key, key)
        before = (store.contents(), store.run_sizes(), store.buffered(), store.moves, store.edits)
        store.get(2)
        store.get(9)
        store.between(0, 2)
        after = (store.contents(), store.run_sizes(), store.buffered(), store.moves, store.edits)
        self.assertEqual(before, after)


if __name__ == "__main__":
    unittest.main()
