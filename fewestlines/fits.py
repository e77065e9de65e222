"""Whether points fit: a straight line runs within the error of all their heights."""

from math import gcd

from fewestlines.bundles import LeastSlope
from fewestlines.lines import bend
from fewestlines.strips import longest_piece


def three_fit(one, two, three, error):
    """Whether three points with ascending places fit for the error (point 2.1)."""
    return bend(one, two, three) <= 2 * error * (three[0] - one[0])


def plain_fits(points, error):
    """Whether the points fit, by trying each three of them (point 2.2)."""
    for last in range(len(points)):
        for middle in range(last):
            for first in range(middle):
                if not three_fit(points[first], points[middle], points[last], error):
                    return False
    return True


def slope_range(points, error):
    """The greatest lower and the least upper bound of the slopes of at least two points (point 2.3)."""
    rise, run = greatest_lower_bound(points, error)
    mirrored = [(place, -height) for place, height in points]
    fall, width = greatest_lower_bound(mirrored, error)
    return (rise, run), (-fall, width)


def greatest_lower_bound(points, error):
    """The greatest (v - y - 2 * error) / (u - x) of all pairs of points, reduced."""
    least = LeastSlope()
    for index, (place, height) in enumerate(points):
        bound = least.bound_with((place, height - 2 * error, index))
        least.take((place, height, index), bound)
    rise, run, _, _ = least.bound
    divisor = gcd(rise, run)
    return rise // divisor, run // divisor


def fits(points, error):
    """Whether some line runs within the error of all points."""
    return longest_piece(points, 0, error)[2] is None


def fitting_line(points, error):
    """A line that fits the points, or None (point 2.4)."""
    _, line, why = longest_piece(points, 0, error)
    if why is None:
        return line
    return None


def reason(points, error):
    """Three ascending indexes of points that do not fit, or None if all points fit (point 2.5)."""
    return longest_piece(points, 0, error)[2]
