"""The least errors for numbers of pieces."""

from fewestlines.reaches import Reaches


def least_error(points, pieces):
    """The least error with which the cut has at most that many pieces (point 4.1)."""
    if not points:
        return 0
    reaches = Reaches(points)
    below = reaches.stretch(0)
    if below[2] <= pieces:
        return 0
    above = reaches.stretch(enough_error(points))
    # The cut has too many pieces for below, not for above.
    while below[1] < above[0]:
        between = reaches.stretch((below[1] + above[0]) // 2)
        if between[2] <= pieces:
            above = between
        else:
            below = between
    return above[0]


def staircase(points):
    """The pairs (error, number of pieces) at which the number of pieces gets smaller (point 4.2)."""
    if not points:
        return [(0, 0)]
    reaches = Reaches(points)
    here = reaches.stretch(0)
    steps = [(0, here[2])]
    # Stretches with greater errors, the nearest one last, each for many steps.
    ahead = [reaches.stretch(enough_error(points))]
    while ahead:
        there = ahead[-1]
        if here[2] == there[2]:
            here = ahead.pop()
        elif here[1] == there[0]:
            here = ahead.pop()
            steps.append((here[0], here[2]))
        else:
            ahead.append(reaches.stretch((here[1] + there[0]) // 2))
    return steps


def enough_error(points):
    """An error for which all points fit, because a level line runs within it."""
    heights = [height for _, height in points]
    return max(heights) - min(heights)
