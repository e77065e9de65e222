"""Point 16.1: views of a store, and the changes between them."""

import unittest

from fewestlines.store import Store
from fewestlines.view import View
from edits import edit, edits_of, edits_of_large_numbers, pairs_after, store_after


class Moments(unittest.TestCase):
    def check(self, view, edits, asked):
        """Compare a view with a plain dictionary after the edits."""
        plain = dict(pairs_after(edits))
        self.assertEqual(view.edits, len(edits))
        self.assertEqual(view.contents(), sorted(plain.items()))
        for key in asked:
            self.assertEqual(view.get(key), plain.get(key))

    def test_views_before_between_and_after_edits(self):
        for capacity in (1, 2, 3, 8, 50):
            edits = edits_of(capacity, 150, 20)
            store = Store(capacity, 1)
            views = [View(store)]
            for made, (key, value) in enumerate(edits, 1):
                edit(store, key, value)
                views.append(View(store))
                self.check(views[-1], edits[:made], [key])
            # The store was flushed and merged again and again since.
            for made, view in enumerate(views):
                self.check(view, edits[:made], range(-22, 23))

    def test_an_empty_store(self):
        store = Store(3, 0)
        view = View(store)
        for key in range(20):
            store.put(key, key)
        self.assertEqual((view.edits, view.contents(), view.get(0)), (0, [], None))

    def test_keys_that_are_there_were_removed_were_never_there(self):
        store = store_after(2, 0, [(1, 10), (2, 20), (3, 30), (2, None), (5, 0)])
        view = View(store)
        store.remove(1)
        store.put(2, 9)
        store.put(4, 9)
        self.assertEqual([view.get(key) for key in range(7)], [None, 10, None, 30, None, 0, None])
        self.assertEqual((view.edits, store.edits), (5, 8))

    def test_large_numbers(self):
        edits = edits_of_large_numbers(160, 400)
        store = store_after(7, 3, edits[:200])
        view = View(store)
        for key, value in edits[200:]:
            edit(store, key, value)
        self.check(view, edits[:200], [key for key, _ in edits])

    def test_the_store_stays_as_it_was_and_lists_are_new(self):
        edits = edits_of(3, 60, 15)
        store = store_after(4, 0, edits)
        view = View(store)
        self.check(view, edits, range(-16, 17))
        view.contents().clear()
        view.changes(view).append(0)
        self.check(view, edits, range(-16, 17))
        self.assertEqual((store.edits, store.contents()), (60, pairs_after(edits)))


class Changes(unittest.TestCase):
    def test_new_changed_gone_and_back(self):
        store = store_after(2, 0, [(1, 10), (2, 20), (3, 30), (4, 40), (5, 0)])
        earlier = View(store)
        for key, value in [(0, 7), (2, 21), (3, None), (4, None), (4, 40), (5, None), (6, 60), (6, None), (9, 0)]:
            edit(store, key, value)
        later = View(store)
        self.assertEqual(earlier.changes(later), [(0, 7), (2, 21), (3, None), (5, None), (9, 0)])

    def test_the_view_to_itself(self):
        for many in (0, 1, 30):
            store = store_after(3, 1, edits_of(5, many, 9))
            view = View(store)
            self.assertEqual(view.changes(view), [])
            self.assertEqual(view.changes(View(store)), [])

    def test_from_and_to_an_empty_store(self):
        store = Store(2, 0)
        empty = View(store)
        for key in (3, -1, 2):
            store.put(key, 5)
        full = View(store)
        for key in (3, -1, 2):
            store.remove(key)
        self.assertEqual(empty.changes(full), [(-1, 5), (2, 5), (3, 5)])
        self.assertEqual(full.changes(View(store)), [(-1, None), (2, None), (3, None)])
        self.assertEqual(empty.changes(View(store)), [])

    def test_beside_plain_dictionaries(self):
        edits = edits_of(161, 200, 12, 4) + edits_of_large_numbers(162, 100)
        store = Store(5, 1)
        views = [View(store)]
        for key, value in edits:
            edit(store, key, value)
            views.append(View(store))
        for first in range(0, 301, 20):
            for last in range(first, 301, 7):
                one, other = dict(pairs_after(edits[:first])), dict(pairs_after(edits[:last]))
                wanted = [(key, other.get(key)) for key in sorted(set(one) | set(other))
                          if one.get(key) != other.get(key)]
                self.assertEqual(views[first].changes(views[last]), wanted)

    def test_changes_lead_from_one_view_to_the_other(self):
        edits = edits_of(163, 120, 9, 5)
        store = store_after(4, 0, edits[:60])
        earlier = View(store)
        for key, value in edits[60:]:
            edit(store, key, value)
        later = View(store)
        again = store_after(3, 0, earlier.contents())
        for key, value in earlier.changes(later):
            edit(again, key, value)
        self.assertEqual(again.contents(), later.contents())
        self.assertEqual((earlier.edits, later.edits), (60, 120))


if __name__ == "__main__":
    unittest.main()
