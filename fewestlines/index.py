"""An ordered index that predicts by lines where a key stands."""

from fewestlines.cuttings import cut
from fewestlines.lines import ceiling_at, floor_at


class Level:
    """Strictly ascending keys, and the pieces of the cut of the points (key, index of the key)."""

    def __init__(self, stored, error):
        self.stored = list(stored)
        self.error = error
        self.pieces = cut([(key, index) for index, key in enumerate(self.stored)], error).pieces

    def first_keys(self):
        """The first keys of the pieces."""
        return [self.stored[start] for start, _ in self.pieces]

    def window(self, piece, x):
        """The first and last position at which the last key of the piece not above x may stand.

        x is not below the first key of the piece.
        """
        start, line = self.pieces[piece]
        last = len(self.stored) - 1
        if piece + 1 < len(self.pieces):
            last = self.pieces[piece + 1][0] - 1
        # Behind the last key the line may run on above its position.
        low = min(last, ceiling_at(line, x) - 1 - self.error)
        high = min(last, floor_at(line, x) + self.error)
        return max(start, low), high

    def search(self, piece, x):
        """The position of the last key of the piece not above x, and the positions looked at for it."""
        low, high = self.window(piece, x)
        looked = []
        while low < high:
            middle = (low + high + 1) // 2
            looked.append(middle)
            if self.stored[middle] <= x:
                low = middle
            else:
                high = middle - 1
        return low, looked


class Index:
    """Strictly ascending keys under levels of pieces (point 5.1)."""

    def __init__(self, stored, error, upper):
        self.stored = list(stored)
        self._levels = [Level(self.stored, error)]
        while len(self._levels[-1].pieces) > 1:
            self._levels.append(Level(self._levels[-1].first_keys(), upper))

    def level_keys(self):
        """The lists of keys of all levels, from level 0 on."""
        return [list(level.stored) for level in self._levels]

    def pieces(self):
        """The numbers of pieces of all levels."""
        return [len(level.pieces) for level in self._levels]

    def look_up(self, x):
        """The rank of x, and the looks (level, position) that were made to find it (point 5.2)."""
        if not self.stored:
            return 0, []
        top = len(self._levels) - 1
        looks = [(top, 0)]
        if x < self.stored[0]:
            return 0, looks
        position = 0
        for number in reversed(range(top + 1)):
            # The key found on a level is the first one of its piece below.
            position, looked = self._levels[number].search(position, x)
            looks.extend([(number, place) for place in looked])
        return position + 1, looks

    def rank(self, x):
        """The number of keys that are not above x."""
        return self.look_up(x)[0]

    def has(self, x):
        """Whether x is a key."""
        return self.at_most(x) == x

    def count(self, a, b):
        """The number of keys from a to b, both included."""
        if a > b:
            return 0
        return self.rank(b) - self.rank(a - 1)

    def at_most(self, x):
        """The greatest key that is not above x, or None."""
        return self.key_at(self.rank(x) - 1)

    def at_least(self, x):
        """The least key that is not below x, or None."""
        return self.key_at(self.rank(x - 1))

    def key_at(self, index):
        """The key with the index, or None if there is none."""
        if 0 <= index < len(self.stored):
            return self.stored[index]
        return None
