"""How far points fit from each index on, for several errors, with the reasons.

A reach is a tuple (end, reason): the greatest end with which the points from
an index up to it, the end left out, fit, and three indexes of points up to
the end, included, that do not fit, or None if it is the end of all points.
"""

from fewestlines.fits import three_fit
from fewestlines.lines import bend, line_fits
from fewestlines.strips import Strip, deviation_of, exceeds, indexes_of, middle_line

# How far a reach is followed from that of the index before it.
NEAR = 4


def reaches_for(points, errors):
    """For each of the ascending errors a list with the reach of each index."""
    rows = [[] for _ in errors]
    reaches = reaches_from(points, 0, errors)
    for index in range(len(points)):
        reaches = reaches_after(points, index, errors, reaches)
        for row, reach in zip(rows, reaches):
            row.append(reach)
    return rows


def reaches_after(points, start, errors, before):
    """The reaches of the start for the errors, by those of the index before it."""
    reaches = [near_reach(points, start, reach, error) for reach, error in zip(before, errors)]
    unknown = [at for at, reach in enumerate(reaches) if reach is None]
    found = reaches_from(points, start, [errors[at] for at in unknown])
    for at, reach in zip(unknown, found):
        reaches[at] = reach
    return reaches


def near_reach(points, start, before, error):
    """The reach of the start, if that of the index before it tells it easily, otherwise None.

    The points up to the end before fit. The end is moved on until three points
    do not fit; that all points up to there do must show by one line.
    """
    if before[1] is None or before[1][0] >= start:
        return before
    least = max(before[0], start + 2)
    bent = max(before[1][1], start + 1)
    for end in range(least, min(least + NEAR, len(points))):
        middle = most_bent(points, start, bent, end)
        if not three_fit(points[start], points[middle], points[end], error):
            if end > least and not halfway_fits(points, start, bent, end, error):
                return None
            return end, (start, middle, end)
        bent = middle
    return None


def halfway_fits(points, start, bent, end, error):
    """Whether the line halfway between the bent point and the outer two before the end fits all points there."""
    line = middle_line(deviation_of(points, start, bent, end - 1))
    return line_fits(line, points[start:end], error)


def most_bent(points, start, middle, end):
    """The index near the middle of the point that is the farthest from the line through the outer two."""
    best = middle
    most = bend(points[start], points[middle], points[end])
    for way in (1, -1):
        for index in range(middle + way, middle + way * NEAR, way):
            if not start < index < end:
                break
            other = bend(points[start], points[index], points[end])
            if other <= most:
                break
            best, most = index, other
    return best


def reaches_from(points, start, errors):
    """The reaches of the start for the ascending errors."""
    strip = Strip()
    reaches = []
    for index in range(start, len(points)):
        if len(reaches) == len(errors):
            break
        place, height = points[index]
        vertex = (place, height, index)
        step = strip.step_with(vertex)
        strip.take(vertex, step)
        while len(reaches) < len(errors) and exceeds(step[0], errors[len(reaches)]):
            why = late_reason(points, indexes_of(step[0]), errors[len(reaches)])
            reaches.append((index, why))
    return reaches + [(len(points), None)] * (len(errors) - len(reaches))


def late_reason(points, why, error):
    """The reason, with a first index that may be later: so more indexes have the same reach."""
    first, middle, last = why
    beyond = middle
    while first + 1 < beyond:
        between = (first + beyond) // 2
        if three_fit(points[between], points[middle], points[last], error):
            beyond = between
        else:
            first = between
    return first, middle, last
