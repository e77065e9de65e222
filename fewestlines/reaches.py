"""How far the pieces of points reach, for all errors."""

from fewestlines.strips import Strip, least_error_for


class Row:
    """The least errors with which ever more points, taken one after another, fit."""

    def __init__(self):
        self.errors = []
        self._strip = Strip()

    def take(self, vertex):
        """Take one more point and keep the least error with which all points taken so far fit."""
        step = self._strip.step_with(vertex)
        self._strip.take(vertex, step)
        self.errors.append(least_error_for(step[0]))

    def length(self, error):
        """The number of first points that fit for the error."""
        first, last = 0, len(self.errors)
        while first < last:
            middle = (first + last) // 2
            if self.errors[middle] <= error:
                first = middle + 1
            else:
                last = middle
        return first


class Reaches:
    """Tells for each error the number of pieces of the cut of points.

    The row of each start is kept, and only made as far as a question needs it.
    """

    def __init__(self, points):
        self._points = list(points)
        self._rows = {}

    def stretch(self, error):
        """The errors for which the cut has the same starts as for this one.

        The answer is a tuple (least, beyond, count): the least of these
        errors, the first error above them, or None if there is none, and the
        number of pieces.
        """
        least = 0
        beyond = None
        count = 0
        start = 0
        while start < len(self._points):
            row = self._row(start, error)
            length = row.length(error)
            least = max(least, row.errors[length - 1])
            if length < len(row.errors) and (beyond is None or row.errors[length] < beyond):
                beyond = row.errors[length]
            start += length
            count += 1
        return least, beyond, count

    def _row(self, start, error):
        """The row of a start, up to the end of the points or to one that does not fit for the error."""
        if start not in self._rows:
            self._rows[start] = Row()
        row = self._rows[start]
        index = start + len(row.errors)
        while index < len(self._points) and (not row.errors or row.errors[-1] <= error):
            place, height = self._points[index]
            row.take((place, height, index))
            index += 1
        return row
