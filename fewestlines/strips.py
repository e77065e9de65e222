"""Strips: how far points deviate from a straight line, for points taken one after another.

Three points (x, y), (u, v), (s, t) in ascending order deviate by the distance
of the middle one from the line through the outer two, upright: a fraction with
the denominator s - x. By points 2.1 and 2.2 points fit for an error exactly if
the greatest deviation of three of them is at most twice the error.

A deviation is a tuple (over, run, first, middle, last): the fraction
over / run and the three vertices (place, height, index) that have it.
"""

from fewestlines.chains import farthest, kept
from fewestlines.lines import bend, reduced


def exceeds(deviation, error):
    """Whether the three points of the deviation do not fit for the error."""
    return deviation[0] > 2 * error * deviation[1]


def least_error_for(deviation):
    """The least integer error for which the three points of the deviation fit."""
    return -(-deviation[0] // (2 * deviation[1]))


def deviation_of(points, one, two, three):
    """The deviation of the points with the three ascending indexes."""
    run = points[three][0] - points[one][0]
    first, middle, last = [(points[index][0], points[index][1], index) for index in (one, two, three)]
    return bend(points[one], points[two], points[three]), run, first, middle, last


def middle_line(deviation):
    """The line halfway between the outer two points' line and the middle point."""
    run = deviation[1]
    place, height, _ = deviation[2]
    between, level, _ = deviation[3]
    rise = deviation[4][1] - height
    above = run * (height - level) + rise * (between - place)
    return reduced((2 * rise, 2 * (run * height - rise * place) - above, 2 * run))


def indexes_of(deviation):
    """The indexes of the three points of the deviation."""
    return deviation[2][2], deviation[3][2], deviation[4][2]


class Strip:
    """The greatest deviation of points that are taken one after another, with ascending places."""

    def __init__(self):
        self._upper = []
        self._lower = []
        self._greatest = None

    def step_with(self, vertex):
        """What it would be to take the vertex: a tuple (deviation, above, below).

        That is the greatest deviation of the points taken so far and this
        vertex, and how many vertices of the upper and the lower hull stay.
        """
        if not self._upper:
            return (0, 1, vertex, vertex, vertex), 0, 0
        above = kept(self._upper, vertex, 1)
        below = kept(self._lower, vertex, -1)
        # A greater deviation has an edge of the new hull, the last one above
        # or the last one below, as its outer two points.
        found = deviation_under(self._upper[above - 1], vertex, self._lower, 1)
        if found is None:
            found = deviation_under(self._lower[below - 1], vertex, self._upper, -1)
        if found is None:
            found = self._greatest
        return found, above, below

    def take(self, vertex, step):
        """Take the vertex; the step is the one that step_with answers for it."""
        self._greatest, above, below = step
        del self._upper[above:]
        self._upper.append(vertex)
        del self._lower[below:]
        self._lower.append(vertex)

    def line(self):
        """A line that deviates as little as possible from the points taken so far.

        Its slope is that between two of the points, so it ascends if they all do.
        """
        if not self._upper:
            return 0, 0, 1
        return middle_line(self._greatest)


def deviation_under(first, vertex, other, side):
    """The deviation from the edge between two vertices to the other chain, or None if it is not the greatest.

    All points lie between the line of the edge and the line beside it through
    the vertex of the other chain that is farthest from it. If that vertex is
    over the edge, these three points alone need as much room, so no other
    three points deviate more.
    """
    run = vertex[0] - first[0]
    rise = vertex[1] - first[1]
    middle = farthest(other, side * rise, side * run)
    if middle[0] < first[0]:
        return None
    over = side * (run * (first[1] - middle[1]) + rise * (middle[0] - first[0]))
    return over, run, first, middle, vertex


def longest_piece(points, start, error):
    """The longest piece of points from the start on that fit for the error.

    The answer is a tuple (end, line, reason): the index behind the piece, a
    line that fits it, and three indexes up to the end, included, of points
    that do not fit, or None if the piece reaches to the end of the points.
    """
    strip = Strip()
    for index in range(start, len(points)):
        place, height = points[index]
        vertex = (place, height, index)
        step = strip.step_with(vertex)
        if exceeds(step[0], error):
            return index, strip.line(), indexes_of(step[0])
        strip.take(vertex, step)
    return len(points), strip.line(), None
