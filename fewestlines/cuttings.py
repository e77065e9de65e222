"""Cuttings of points into the fewest pieces over which a line fits, and their judge."""

from fewestlines.fits import plain_fits, three_fit
from fewestlines.lines import line_fits
from fewestlines.strips import longest_piece


class Cutting:
    """Pieces (start, line), and for each piece but the last a reason of three indexes (point 3.1)."""

    def __init__(self, pieces, reasons):
        self.pieces = list(pieces)
        self.reasons = list(reasons)


def cut(points, error):
    """The cutting that takes as many points as fit into each piece in turn (point 3.4)."""
    pieces, reasons = taken_in_turn(lambda start: longest_piece(points, start, error), len(points))
    return Cutting(pieces, reasons)


def taken_in_turn(longest, length):
    """The pieces and reasons of the longest pieces of a list of the length, one after another.

    longest(start) answers a tuple: the index behind the longest piece from
    the start on, what stands in the piece beside its start, and the reason
    why it is not longer, or None if it reaches to the end.
    """
    pieces = []
    reasons = []
    start = 0
    while start < length:
        end, shape, why = longest(start)
        pieces.append((start, shape))
        if why is not None:
            reasons.append(why)
        start = end
    return pieces, reasons


def judge(points, error, cutting):
    """Whether the cutting is accepted: no cutting of the points has fewer pieces (point 3.2)."""
    if not frame_stands(cutting.pieces, cutting.reasons, len(points)):
        return False
    ends = ends_of(cutting.pieces, len(points))
    for (start, line), end in zip(cutting.pieces, ends):
        if line[2] < 1 or not line_fits(line, points[start:end], error):
            return False
    for why, (start, _), end in zip(cutting.reasons, cutting.pieces, ends):
        if not reason_stands(points, error, why, start, end):
            return False
    return True


def frame_stands(pieces, reasons, length):
    """Whether the starts of the pieces are right, and the number of reasons, for a list of the length."""
    if not starts_stand([piece[0] for piece in pieces], length):
        return False
    return len(reasons) == max(0, len(pieces) - 1)


def ends_of(pieces, length):
    """The index behind each piece of a list of the length."""
    return [piece[0] for piece in pieces[1:]] + [length]


def starts_stand(starts, length):
    """Whether the starts are strictly ascending indexes from 0 on; none only if there is nothing to cut."""
    if not starts or length == 0:
        return not starts and length == 0
    for one, other in zip(starts, starts[1:]):
        if one >= other:
            return False
    return starts[0] == 0 and starts[-1] < length


def reason_stands(points, error, why, start, end):
    """Whether the reason has three ascending indexes from start to end of points that do not fit."""
    first, middle, last = why
    if not start <= first < middle < last <= end:
        return False
    return not three_fit(points[first], points[middle], points[last], error)


def least_count(points, error):
    """The least number of pieces over all cuttings into pieces that fit, by trying all cuts (point 3.5)."""
    return fewest_parts(len(points), lambda start, end: plain_fits(points[start:end], error))


def fewest_parts(length, stands):
    """The least number of parts of a list of the length, by trying all cuts.

    stands(start, end) tells whether the items from the start up to the end,
    the end left out, may be a part; one item alone always may.
    """
    least = [0]
    for end in range(1, length + 1):
        best = least[end - 1] + 1
        for start in range(end - 1):
            if least[start] + 1 < best and stands(start, end):
                best = least[start] + 1
        least.append(best)
    return least[length]
