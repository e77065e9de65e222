"""Lines: tuples (p, q, d) with the height (p * x + q) / d at the place x."""

from math import gcd


def reduced(line):
    """The line with the same heights whose numbers have no common divisor from 2 on."""
    p, q, d = line
    divisor = gcd(gcd(p, q), d)
    return p // divisor, q // divisor, d // divisor


def floor_at(line, place):
    """The greatest integer that is not above the line at the place."""
    p, q, d = line
    return (p * place + q) // d


def ceiling_at(line, place):
    """The least integer that is not below the line at the place."""
    p, q, d = line
    return -((-p * place - q) // d)


def is_near(line, point, error):
    """Whether the line differs from the height of the point by at most the error."""
    p, q, d = line
    place, height = point
    return abs(p * place + q - height * d) <= error * d


def line_fits(line, points, error):
    """Whether the line is near each of the points."""
    return all([is_near(line, point, error) for point in points])


def bend(one, two, three):
    """The upright distance of the middle of three points from the line through the outer two, times their run."""
    x, y = one
    u, v = two
    s, t = three
    return abs(v * (s - x) - y * (s - u) - t * (u - x))
