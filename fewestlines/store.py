"""A store of values for keys under edits: a buffer above runs that are merged."""

from fewestlines.index import Index


class Run:
    """Entries (key, value) with strictly ascending keys, and an index over these."""

    def __init__(self, entries, error):
        self.entries = list(entries)
        self._index = Index([entry[0] for entry in self.entries], error, error)

    def entry_of(self, key):
        """The entry of a key, or None."""
        rank = self._index.rank(key)
        if rank > 0 and self.entries[rank - 1][0] == key:
            return self.entries[rank - 1]
        return None

    def between(self, a, b):
        """The entries with keys from a to b."""
        return self.entries[self._index.rank(a - 1):self._index.rank(b)]


class Store:
    """Values for keys, found like those of a plain dictionary after the same edits (point 6)."""

    def __init__(self, capacity, error):
        self.capacity = capacity
        self.error = error
        self.moves = 0
        self.edits = 0
        self._buffer = []
        # One run or None for each level; a removed key's entry has the value None.
        self._runs = []

    def put(self, key, value):
        """Change the store: write a value for a key."""
        self.write(key, value)

    def remove(self, key):
        """Change the store: write that a key is gone, also if it is not there."""
        self.write(key, None)

    def write(self, key, value):
        """Change the store: write the entry (key, value), with None for a key that is gone."""
        self.edits += 1
        place = place_of(self._buffer, key)
        if holds(self._buffer, place, key):
            self._buffer[place] = (key, value)
        else:
            self._buffer.insert(place, (key, value))
        if len(self._buffer) >= self.capacity:
            self._flush()

    def get(self, key):
        """The value of a key, or None."""
        place = place_of(self._buffer, key)
        if holds(self._buffer, place, key):
            return self._buffer[place][1]
        for run in self._present_runs():
            entry = run.entry_of(key)
            if entry is not None:
                return entry[1]
        return None

    def contents(self):
        """The pairs of all keys with values, in ascending order of keys."""
        older = [run.entries for run in self._present_runs()]
        return without_removed(merged([self._buffer] + older))

    def between(self, a, b):
        """The contents with keys from a to b."""
        if a > b:
            return []
        newest = self._buffer[place_of(self._buffer, a):place_of(self._buffer, b + 1)]
        older = [run.between(a, b) for run in self._present_runs()]
        return without_removed(merged([newest] + older))

    def run_sizes(self):
        """The numbers of entries of the runs from level 0 on, 0 for none, without zeros at the end."""
        sizes = [0 if run is None else len(run.entries) for run in self._runs]
        while sizes and sizes[-1] == 0:
            del sizes[-1]
        return sizes

    def buffered(self):
        """The number of entries in the buffer."""
        return len(self._buffer)

    def buffer_entries(self):
        """The entries of the buffer, in ascending order of keys."""
        return list(self._buffer)

    def level_entries(self):
        """The entries of the run of each level from 0 on, in ascending order of keys; none without a run."""
        return [[] if run is None else list(run.entries) for run in self._runs]

    def restore(self, edits, moves, buffer, levels):
        """Change the store: make it one with these numbers and entries of the buffer and of each level."""
        self.edits = edits
        self.moves = moves
        self._buffer = list(buffer)
        self._runs = [Run(entries, self.error) if entries else None for entries in levels]

    def _present_runs(self):
        """The runs that are there, the newest one first."""
        return [run for run in self._runs if run is not None]

    def _flush(self):
        """Merge the buffer with the runs up to the first level that has none (point 6.2)."""
        parts = [self._buffer]
        level = 0
        while level < len(self._runs) and self._runs[level] is not None:
            parts.append(self._runs[level].entries)
            self._runs[level] = None
            level += 1
        self.moves += sum([len(part) for part in parts])
        entries = merged(parts)
        # With all merged runs taken out, those that are left are below the new one.
        if not self._present_runs():
            entries = without_removed(entries)
        if level == len(self._runs):
            self._runs.append(None)
        if entries:
            self._runs[level] = Run(entries, self.error)
        self._buffer = []


def place_of(entries, key):
    """The index of the first entry whose key is not below the key."""
    first, last = 0, len(entries)
    while first < last:
        middle = (first + last) // 2
        if entries[middle][0] < key:
            first = middle + 1
        else:
            last = middle
    return first


def holds(entries, place, key):
    """Whether the entry of the key stands at the place."""
    return place < len(entries) and entries[place][0] == key


def merged(parts):
    """The entries of all parts in order of keys; for each key that of the first part that has it."""
    newest = {}
    for part in parts:
        for key, value in part:
            if key not in newest:
                newest[key] = value
    return [(key, newest[key]) for key in sorted(newest)]


def without_removed(entries):
    """The entries that are not those of removed keys."""
    return [(key, value) for key, value in entries if value is not None]
