"""Flat pieces: heights near all values, with pairs of values as reasons."""

from fewestlines.cuttings import ends_of, frame_stands, taken_in_turn


class FlatCutting:
    """Pieces (start, height), and for each piece but the last a reason of two indexes (point 9.2)."""

    def __init__(self, pieces, reasons):
        self.pieces = list(pieces)
        self.reasons = list(reasons)


def flat_cut(values, error):
    """The flat cutting that takes as many values as can be into each piece in turn."""
    pieces, reasons = taken_in_turn(lambda start: longest_flat(values, start, error), len(values))
    return FlatCutting(pieces, reasons)


def longest_flat(values, start, error):
    """The longest nearly flat piece from the start on.

    The answer is a tuple (end, height, reason): the index behind the piece, a
    height near its values, and the indexes of two values up to the end,
    included, that are too far apart, or None if the piece reaches to the end.
    """
    least = greatest = start
    for index in range(start, len(values)):
        for other in (least, greatest):
            if abs(values[index] - values[other]) > 2 * error:
                return index, between(values[least], values[greatest]), (other, index)
        if values[index] < values[least]:
            least = index
        if values[index] > values[greatest]:
            greatest = index
    return len(values), between(values[least], values[greatest]), None


def between(low, high):
    """The integer halfway between two, or just below that."""
    return (low + high) // 2


def judge_flat(values, error, cutting):
    """Whether the flat cutting is accepted: no other one of the values has fewer pieces."""
    if not frame_stands(cutting.pieces, cutting.reasons, len(values)):
        return False
    ends = ends_of(cutting.pieces, len(values))
    for (start, height), end in zip(cutting.pieces, ends):
        if not all([abs(value - height) <= error for value in values[start:end]]):
            return False
    for (first, last), (start, _), end in zip(cutting.reasons, cutting.pieces, ends):
        if not start <= first < last <= end:
            return False
        if abs(values[first] - values[last]) <= 2 * error:
            return False
    return True
