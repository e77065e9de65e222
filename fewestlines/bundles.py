"""Bundles: all lines that meet spans, for spans that are taken one after another.

A line that meets two spans (a, l, h) and (b, m, k), a < b, has at least the
slope (m - h) / (b - a), from the high end of the first to the low end of the
second, and at most (k - l) / (b - a). Some line meets all spans exactly if no
lower bound of a pair is above an upper bound of a pair. The line with the
least slope goes through the two ends of the pair that bounds it.

A bound is a tuple (rise, run, first, last): the fraction rise / run and the
two vertices (place, height, index) that it is the slope between.
"""

from fewestlines.chains import kept, steepest_from
from fewestlines.lines import reduced


class LeastSlope:
    """The greatest slope from the high end of a span to the low end of a later one."""

    def __init__(self):
        self._chain = []
        self.bound = None

    def bound_with(self, low_end):
        """The bound of the spans taken so far and one with this low end; None for the first one."""
        if not self._chain:
            return None
        first = steepest_from(self._chain, (low_end[0], low_end[1]))
        rise, run = low_end[1] - first[1], low_end[0] - first[0]
        if self.bound is not None and rise * self.bound[1] <= self.bound[0] * run:
            return self.bound
        return rise, run, first, low_end

    def take(self, high_end, bound):
        """Take the span with this high end; the bound is the one that bound_with answers for it."""
        del self._chain[kept(self._chain, high_end, -1):]
        self._chain.append(high_end)
        self.bound = bound


class Bundle:
    """All lines that meet the spans (place, low, high) that are taken, with ascending places."""

    def __init__(self):
        self.count = 0
        self._first = None
        self._least = LeastSlope()
        # Upside down, the greatest slope is the least one.
        self._greatest = LeastSlope()

    def bounds_with(self, span):
        """The bounds of the least and, upside down, the greatest slope with the span."""
        place, low, high = span
        least = self._least.bound_with((place, low, self.count))
        greatest = self._greatest.bound_with((place, -high, self.count))
        return least, greatest

    def take(self, span, bounds):
        """Take the span; the bounds are those that bounds_with answers for it."""
        place, low, high = span
        if self._first is None:
            self._first = span
        self._least.take((place, high, self.count), bounds[0])
        self._greatest.take((place, -low, self.count), bounds[1])
        self.count += 1

    def least_line(self):
        """The line with the least slope, for at least two spans: the lowest one behind them all."""
        return line_through(self._least.bound)

    def greatest_line(self):
        """The line with the greatest slope, for at least two spans: the highest one behind them all."""
        p, q, d = line_through(self._greatest.bound)
        return -p, -q, d

    def line(self):
        """A line that meets the spans, of which there are some: halfway between the extreme slopes."""
        if self.count == 1:
            return reduced((0, self._first[1] + self._first[2], 2))
        p, q, d = self.least_line()
        r, s, c = self.greatest_line()
        return reduced((p * c + r * d, q * c + s * d, 2 * d * c))


def crossed(bounds):
    """Whether no slope lies between the bounds, so that no line meets all spans."""
    least, greatest = bounds
    if least is None:
        return False
    return least[0] * greatest[1] + greatest[0] * least[1] > 0


def indexes_of(bounds):
    """The ascending indexes of the two to four spans that have the bounds."""
    least, greatest = bounds
    vertices = [least[2], least[3], greatest[2], greatest[3]]
    return sorted(set([index for _, _, index in vertices]))


def line_through(bound):
    """The line of a bound, through its two vertices."""
    rise, run, (place, height, _), _ = bound
    return reduced((rise, run * height - rise * place, run))
