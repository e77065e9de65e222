"""Strips: how far points deviate from a straight line, for points taken one after another.

Three points (x, y), (u, v), (s, t) in ascending order deviate by the distance
of the middle one from the line through the outer two, upright: a fraction with
the denominator s - x. By points 2.1 and 2.2 points fit for an error exactly if
the greatest deviation of three of them is at most twice the error.

A deviation is a tuple (over, run, first, middle, last): the fraction
over / run and the three vertices (place, height, index) that have it.
"""

from fewestlines.chains import farthest, kept, put_behind
from fewestlines.lines import reduced


def exceeds(deviation, error):
    """Whether the three points of the deviation do not fit for the error."""
    return deviation[0] > 2 * error * deviation[1]


def least_error_for(deviation):
    """The least integer error for which the three points of the deviation fit."""
    return -(-deviation[0] // (2 * deviation[1]))


def middle_line(deviation):
    """The line halfway between the outer two points' line and the middle point."""
    run = deviation[1]
    place, height, _ = deviation[2]
    between, level, _ = deviation[3]
    rise = deviation[4][1] - height
    above = run * (height - level) + rise * (between - place)
    return reduced((2 * rise, 2 * (run * height - rise * place) - above, 2 * run))


def indexes_of(deviation):
    """The indexes of the three points of the deviation."""
    return deviation[2][2], deviation[3][2], deviation[4][2]


class Strip:
    """The greatest deviation of points that are taken one after another, with ascending places."""

    def __init__(self):
        self._upper = []
        self._lower = []
        self._greatest = None

    def deviation_with(self, vertex):
        """The greatest deviation of the points taken so far and this vertex."""
        if not self._upper:
            return 0, 1, vertex, vertex, vertex
        # A greater deviation has an edge of the new hull, the last one above
        # or the last one below, as its outer two points.
        found = deviation_under(self._upper, self._lower, vertex, 1)
        if found is None:
            found = deviation_under(self._lower, self._upper, vertex, -1)
        if found is None:
            return self._greatest
        return found

    def take(self, vertex, deviation):
        """Take the vertex; the deviation is the one that deviation_with answers for it."""
        put_behind(self._upper, vertex, 1)
        put_behind(self._lower, vertex, -1)
        self._greatest = deviation

    def line(self):
        """A line that deviates as little as possible from the points taken so far.

        Its slope is that between two of the points, so it ascends if they all do.
        """
        if not self._upper:
            return 0, 0, 1
        return middle_line(self._greatest)


def deviation_under(chain, other, vertex, side):
    """The deviation from the new edge of a chain to the other chain, or None if it is not the greatest.

    All points lie between the line of the edge and the line beside it through
    the vertex of the other chain that is farthest from it. If that vertex is
    over the edge, these three points alone need as much room, so no other
    three points deviate more.
    """
    first = chain[kept(chain, vertex, side) - 1]
    run = vertex[0] - first[0]
    rise = vertex[1] - first[1]
    middle = farthest(other, side * rise, side * run)
    if middle[0] < first[0]:
        return None
    over = side * (run * (first[1] - middle[1]) + rise * (middle[0] - first[0]))
    return over, run, first, middle, vertex


def longest_piece(points, start, error):
    """The longest piece of points from the start on that fit for the error.

    The answer is a tuple (end, line, reason): the index behind the piece, a
    line that fits it, and three indexes up to the end, included, of points
    that do not fit, or None if the piece reaches to the end of the points.
    """
    strip = Strip()
    for index in range(start, len(points)):
        place, height = points[index]
        vertex = (place, height, index)
        deviation = strip.deviation_with(vertex)
        if exceeds(deviation, error):
            return index, strip.line(), indexes_of(deviation)
        strip.take(vertex, deviation)
    return len(points), strip.line(), None
