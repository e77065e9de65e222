"""Cursors: steps upwards and downwards through what a store held at a moment."""

from fewestlines.store import place_of


class Cursor:
    """The contents that the store has when the cursor is made, pair after pair (point 16.2)."""

    def __init__(self, store):
        self._pairs = store.contents()

    def after(self, key):
        """The pair with the least key above the key, or None."""
        return first_of(self.walk(key, 1))

    def before(self, key):
        """The pair with the greatest key below the key, or None."""
        return first_of(self.walk_back(key, 1))

    def walk(self, key, count):
        """At most so many pairs with keys above the key, ascending."""
        first = place_of(self._pairs, key + 1)
        return self._pairs[first:first + count]

    def walk_back(self, key, count):
        """At most so many pairs with keys below the key, descending."""
        end = place_of(self._pairs, key)
        return self._pairs[max(0, end - count):end][::-1]


def first_of(pairs):
    """The first one of the pairs, or None if there is none."""
    if pairs:
        return pairs[0]
    return None
