"""Plain answers, by trying all there is: for short lists, to compare the quick answers with."""

from itertools import combinations

from fewestlines.coded import error_of_width
from fewestlines.cuttings import fewest_parts
from fewestlines.fits import plain_fits
from fewestlines.parts import points_of
from fewestlines.spans import three_meet


def plain_rank(stored, x):
    """The number of keys that are not above x."""
    return len([key for key in stored if key <= x])


def plain_flat_count(values, error):
    """The number of pieces of the flat cut, by trying all cuts (point 9)."""
    return fewest_parts(len(values), lambda start, end: plain_flat(values[start:end], error))


def plain_flat(values, error):
    """Whether no two values differ by more than twice the error."""
    for one, other in combinations(values, 2):
        if abs(one - other) > 2 * error:
            return False
    return True


def plain_span_count(spans):
    """The number of pieces of the cut of spans, by trying all cuts (point 10)."""
    return fewest_parts(len(spans), lambda start, end: plain_met(spans[start:end]))


def plain_met(spans):
    """Whether some line meets all spans, by trying each three of them."""
    for one, two, three in combinations(spans, 3):
        if not three_meet(one, two, three):
            return False
    return True


def plain_room(values, header):
    """The least room of the values in pieces of any widths, by trying all cuts and widths (point 11)."""
    points = points_of(values)
    rooms = [0]
    for end in range(1, len(points) + 1):
        prices = []
        digits = 0
        for start in reversed(range(end)):
            # A longer piece fits for no smaller error, and a greater width than needed has only more room.
            while not plain_fits(points[start:end], error_of_width(digits)):
                digits += 1
            prices.append(rooms[start] + header + (end - start) * digits)
        rooms.append(min(prices))
    return rooms[-1]


def plain_floor_sum(count, p, q, d):
    """The sum of the floors of (p * k + q) / d for k from 0 to count - 1, one by one (point 12.2)."""
    return sum([(p * k + q) // d for k in range(count)])


def plain_inside(points, box):
    """The points in the box, in ascending order of the tuples."""
    left, right, low, high = box
    return sorted([(x, y) for x, y in points if left <= x <= right and low <= y <= high])


class PlainStore:
    """Values for keys in a dictionary, as a store has them after the same edits (point 6.3)."""

    def __init__(self):
        self._values = {}

    def put(self, key, value):
        """Change the store: write a value for a key."""
        self._values[key] = value

    def remove(self, key):
        """Change the store: take a key away, if it is there."""
        if key in self._values:
            del self._values[key]

    def get(self, key):
        """The value of a key, or None."""
        return self._values.get(key)

    def contents(self):
        """The pairs of all keys with values, in ascending order of keys."""
        return sorted(self._values.items())
