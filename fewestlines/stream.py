"""Values that are taken one after another and cut into pieces as they come."""

from fewestlines.bundles import Bundle, crossed
from fewestlines.lines import floor_at


class Stream:
    """The pieces of the cut of the values taken so far, as points (index, value) (point 14.1)."""

    def __init__(self, error):
        self.error = error
        self.length = 0
        self._closed = []
        self._start = 0
        # All lines near the values of the last piece.
        self._bundle = Bundle()

    def push(self, value):
        """Take a value; the answer is the piece that it closes, or None."""
        span = (self.length, value - self.error, value + self.error)
        bounds = self._bundle.bounds_with(span)
        closed = None
        if crossed(bounds):
            closed = self._last_piece()
            self._closed.append(closed)
            self._start = self.length
            self._bundle = Bundle()
            bounds = self._bundle.bounds_with(span)
        self._bundle.take(span, bounds)
        self.length += 1
        return closed

    def pieces(self):
        """The pieces so far, the last one with a line that fits its values until now."""
        if self.length == 0:
            return []
        return self._closed + [self._last_piece()]

    def forecast(self, steps):
        """The floors of the least and greatest height of fitting lines so many steps on (point 14.2)."""
        if self._bundle.count < 2:
            return None
        place = self.length - 1 + steps
        least = floor_at(self._bundle.least_line(), place)
        return least, floor_at(self._bundle.greatest_line(), place)

    def _last_piece(self):
        """The piece that is not closed."""
        return self._start, self._bundle.line()
