"""Outlines of lists: bounds of values, sums, least and greatest values by lines alone."""

from fewestlines.cuttings import cut
from fewestlines.lines import floor_at
from fewestlines.parts import parts, points_of


def floor_sum(count, p, q, d):
    """The sum of the floors of (p * k + q) / d for k from 0 to count - 1 (point 12.2).

    It counts the integer points below a line; with whole steps taken out, the
    rest is a sum of the same kind with the two sides changed, for smaller numbers.
    """
    total = 0
    while count > 0:
        total += p // d * (count * (count - 1) // 2) + q // d * count
        p %= d
        q %= d
        count, rest = divmod(p * count + q, d)
        p, q, d = d, rest, p
    return total


class Outline:
    """The pieces of the cut of a list for an error, without corrections (point 12.1)."""

    def __init__(self, values, error):
        self.error = error
        self.length = len(values)
        self.pieces = cut(points_of(values), error).pieces

    def value_bounds(self, index):
        """The least and the greatest value that may have the index."""
        return self._around(self._floors(index, index + 1)[0], 1)

    def sum_bounds(self, a, b):
        """The bounds of the sum of the values from a up to b, b left out."""
        total = 0
        for first, end, (p, q, d) in parts(self.pieces, a, b):
            total += floor_sum(end - first, p, p * first + q, d)
        return self._around(total, b - a)

    def least_bounds(self, a, b):
        """The bounds of the least value from a up to b, b left out, or None if there is none."""
        if a == b:
            return None
        return self._around(min(self._end_floors(a, b)), 1)

    def greatest_bounds(self, a, b):
        """The bounds of the greatest value from a up to b, b left out, or None if there is none."""
        if a == b:
            return None
        return self._around(max(self._end_floors(a, b)), 1)

    def surely_above(self, a, b, limit):
        """The indexes from a up to b, b left out, of values whose lower bound is above the limit."""
        return self._higher(a, b, limit + self.error)

    def perhaps_above(self, a, b, limit):
        """The indexes from a up to b, b left out, of values whose upper bound is above the limit."""
        return self._higher(a, b, limit - self.error)

    def _around(self, middle, count):
        """The middle minus and plus the error of so many values."""
        return middle - self.error * count, middle + self.error * count

    def _floors(self, a, b):
        """The floors of the lines at the indexes from a up to b, b left out."""
        return [floor_at(line, index) for first, end, line in parts(self.pieces, a, b)
                for index in range(first, end)]

    def _end_floors(self, a, b):
        """The floors at both ends of each piece from a up to b: between them the line is monotonous."""
        return [floor_at(line, index) for first, end, line in parts(self.pieces, a, b)
                for index in (first, end - 1)]

    def _higher(self, a, b, limit):
        """The indexes from a up to b, b left out, at which the floor of the line is above the limit."""
        return [a + offset for offset, floor in enumerate(self._floors(a, b)) if floor > limit]
