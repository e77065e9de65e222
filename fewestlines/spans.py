"""Cuttings of spans into the fewest pieces over which a line meets them all, and their judge."""

from itertools import combinations

from fewestlines.bundles import Bundle, crossed, indexes_of
from fewestlines.cuttings import ends_of, frame_stands, taken_in_turn


class SpanCutting:
    """Pieces (start, line), and for each piece but the last a reason of three indexes (point 10.2)."""

    def __init__(self, pieces, reasons):
        self.pieces = list(pieces)
        self.reasons = list(reasons)


def three_meet(one, two, three):
    """Whether a line meets three spans with ascending places (point 10.1)."""
    a, l, h = one
    b, m, k = two
    c, n, j = three
    if l * (c - b) + n * (b - a) > k * (c - a):
        return False
    return h * (c - b) + j * (b - a) >= m * (c - a)


def meets(line, span):
    """Whether the height of the line is within the span at its place."""
    p, q, d = line
    place, low, high = span
    return low * d <= p * place + q <= high * d


def span_cut(spans):
    """The cutting that takes as many spans as a line can meet into each piece in turn."""
    pieces, reasons = taken_in_turn(lambda start: longest_met(spans, start), len(spans))
    return SpanCutting(pieces, reasons)


def longest_met(spans, start):
    """The longest piece of spans from the start on that a line meets.

    The answer is a tuple (end, line, reason): the index behind the piece, a
    line that meets it, and three indexes up to the end, included, of spans
    that no line meets, or None if the piece reaches to the end of the spans.
    """
    bundle = Bundle()
    for index in range(start, len(spans)):
        bounds = bundle.bounds_with(spans[index])
        if crossed(bounds):
            found = [start + offset for offset in indexes_of(bounds)]
            return index, bundle.line(), unmet_three(spans, found)
        bundle.take(spans[index], bounds)
    return len(spans), bundle.line(), None


def unmet_three(spans, indexes):
    """The first three of the ascending indexes of spans that no line meets; there are such.

    The spans that have two bounds which exclude each other are not all met by
    one line, and by point 10.1 this shows with three of them.
    """
    for one, two, three in combinations(indexes, 3):
        if not three_meet(spans[one], spans[two], spans[three]):
            return one, two, three
    return None


def judge_spans(spans, cutting):
    """Whether the cutting is accepted: no other one of the spans has fewer pieces."""
    if not frame_stands(cutting.pieces, cutting.reasons, len(spans)):
        return False
    ends = ends_of(cutting.pieces, len(spans))
    for (start, line), end in zip(cutting.pieces, ends):
        if line[2] < 1 or not all([meets(line, span) for span in spans[start:end]]):
            return False
    for (first, middle, last), (start, _), end in zip(cutting.reasons, cutting.pieces, ends):
        if not start <= first < middle < last <= end:
            return False
        if three_meet(spans[first], spans[middle], spans[last]):
            return False
    return True
