"""Views: what a store held at a moment."""


class View:
    """The contents that the store has when the view is made (point 16.1)."""

    def __init__(self, store):
        self.edits = store.edits
        # In ascending order of keys, as the store gives them.
        self._values = dict(store.contents())

    def get(self, key):
        """The value of a key, or None."""
        return self._values.get(key)

    def contents(self):
        """The pairs of all keys with values, in ascending order of keys."""
        return list(self._values.items())

    def changes(self, later):
        """The pairs (key, value) of the later view whose values differ here, None for a key that is gone."""
        keys = sorted(set([key for key, _ in self.contents() + later.contents()]))
        return [(key, later.get(key)) for key in keys if self.get(key) != later.get(key)]
