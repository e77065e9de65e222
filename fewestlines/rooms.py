"""Plans: lists of values that are coded in pieces of different widths, in the least room.

A piece of a plan is a tuple (start, width, line), a reach a tuple (end, reason).
"""

from fewestlines.coded import error_of_width, width
from fewestlines.cuttings import ends_of, reason_stands, starts_stand
from fewestlines.fits import fitting_line
from fewestlines.least import least_error
from fewestlines.lines import line_fits
from fewestlines.parts import points_of
from fewestlines.prices import least_prices, prices_stand
from fewestlines.widths import reaches_for

GREATEST_WIDTH = 100


class Plan:
    """Pieces, a list of reaches for each width from 0 on, and prices (point 11.2)."""

    def __init__(self, pieces, reaches, prices):
        self.pieces = list(pieces)
        self.reaches = [list(row) for row in reaches]
        self.prices = list(prices)


def best_plan(values, header):
    """The plan with the least room (point 11.4)."""
    points = points_of(values)
    last = width(least_error(points, 1))
    reaches = reaches_for(points, [error_of_width(digits) for digits in range(last + 1)])
    prices, steps = least_prices(reaches, header, len(values))
    return Plan(pieces_of(points, steps), reaches, prices)


def pieces_of(points, steps):
    """The pieces of which the last one, and the last one before it, and so on, are those of the steps."""
    pieces = []
    end = len(points)
    while end > 0:
        start, digits = steps[end - 1]
        line = fitting_line(points[start:end], error_of_width(digits))
        pieces.append((start, digits, line))
        end = start
    return pieces[::-1]


def plan_room(values, header, plan):
    """The room of the pieces of the plan (point 11.1)."""
    ends = ends_of(plan.pieces, len(values))
    return sum([header + (end - start) * digits
                for (start, digits, _), end in zip(plan.pieces, ends)])


def judge_plan(values, header, plan):
    """Whether the plan is accepted: no coding of the values has less room (point 11.3)."""
    points = points_of(values)
    if not pieces_stand(points, plan.pieces):
        return False
    if not reaches_stand(points, plan.reaches):
        return False
    if len(plan.prices) != len(points) + 1 or plan.prices[0] != 0:
        return False
    for digits, row in enumerate(plan.reaches):
        if not prices_stand(plan.prices, row, digits, header):
            return False
    return plan_room(values, header, plan) == plan.prices[-1]


def pieces_stand(points, pieces):
    """Whether starts, widths and lines of the pieces are right (condition 1)."""
    if not starts_stand([start for start, _, _ in pieces], len(points)):
        return False
    for (start, digits, line), end in zip(pieces, ends_of(pieces, len(points))):
        if not 0 <= digits <= GREATEST_WIDTH or line[2] < 1:
            return False
        if not line_fits(line, points[start:end], error_of_width(digits)):
            return False
    return True


def reaches_stand(points, reaches):
    """Whether there are the reaches that a plan needs, and all of them are right (conditions 2 and 3)."""
    if not reaches:
        return False
    for digits, row in enumerate(reaches):
        if len(row) != len(points):
            return False
        error = error_of_width(digits)
        for index, reach in enumerate(row):
            if not reach_stands(points, index, reach, error):
                return False
    return all([why is None for _, why in reaches[-1]])


def reach_stands(points, index, reach, error):
    """Whether the reach of the index goes up to the end of the points, or has a reason not to."""
    end, why = reach
    if why is None:
        return end == len(points)
    if not index < end < len(points):
        return False
    return reason_stands(points, error, why, index, end)
