"""Cuttings as texts, and the audit of such texts."""

from fewestlines.cuttings import Cutting, judge
from fewestlines.errors import InvalidPaper
from fewestlines.papers import numbers_in

# For each number of a line: whether it may have a minus.
PIECE_SIGNS = (False, True, True, False)
REASON_SIGNS = (False, False, False)


def write_cutting(cutting):
    """The text of a cutting (point 8.1)."""
    lines = ["cutting"]
    for at, (start, (p, q, d)) in enumerate(cutting.pieces):
        lines.append(f"piece {start} {p} {q} {d}")
        if at < len(cutting.reasons):
            first, middle, last = cutting.reasons[at]
            lines.append(f"reason {first} {middle} {last}")
    return "\n".join(lines)


def read_cutting(text):
    """The cutting that a text writes; InvalidPaper if it has not the form (point 8.2)."""
    lines = text.split("\n")
    if lines[0] != "cutting":
        raise InvalidPaper(1)
    pieces = []
    reasons = []
    for number, line in enumerate(lines[1:], start=2):
        if len(pieces) == len(reasons):
            pieces.append(piece_in(line, number))
        else:
            reasons.append(reason_in(line, number))
    if pieces and len(pieces) == len(reasons):
        raise InvalidPaper(len(lines) + 1)
    return Cutting(pieces, reasons)


def piece_in(line, number):
    """The piece of a line of the text; InvalidPaper with the number of the line if there is none."""
    numbers = numbers_in(line, "piece", PIECE_SIGNS)
    if numbers is None:
        raise InvalidPaper(number)
    start, p, q, d = numbers
    return start, (p, q, d)


def reason_in(line, number):
    """The reason of a line of the text; InvalidPaper with the number of the line if there is none."""
    numbers = numbers_in(line, "reason", REASON_SIGNS)
    if numbers is None:
        raise InvalidPaper(number)
    return tuple(numbers)


def audit(points, error, text):
    """The number of pieces of the cutting that the text writes, or None if it is not accepted."""
    try:
        cutting = read_cutting(text)
    except InvalidPaper:
        return None
    if judge(points, error, cutting):
        return len(cutting.pieces)
    return None
