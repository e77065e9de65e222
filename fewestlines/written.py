"""Cuttings as texts, and the audit of such texts."""

from fewestlines.cuttings import Cutting, judge
from fewestlines.errors import InvalidPaper
from fewestlines.papers import Paper

# For each number of a line: whether it may have a minus.
PIECE_SIGNS = (False, True, True, False)
REASON_SIGNS = (False, False, False)


def write_cutting(cutting):
    """The text of a cutting (point 8.1)."""
    lines = ["cutting"]
    for at, (start, (p, q, d)) in enumerate(cutting.pieces):
        lines.append(f"piece {start} {p} {q} {d}")
        if at < len(cutting.reasons):
            first, middle, last = cutting.reasons[at]
            lines.append(f"reason {first} {middle} {last}")
    return "\n".join(lines)


def read_cutting(text):
    """The cutting that a text writes; InvalidPaper if it has not the form (point 8.2)."""
    paper = Paper(text)
    paper.numbers("cutting", ())
    pieces = []
    reasons = []
    if not paper.ended():
        pieces.append(piece_of(paper.numbers("piece", PIECE_SIGNS)))
    while not paper.ended():
        reasons.append(tuple(paper.numbers("reason", REASON_SIGNS)))
        # Behind a reason a piece is due, also at the end of the text.
        pieces.append(piece_of(paper.numbers("piece", PIECE_SIGNS)))
    return Cutting(pieces, reasons)


def piece_of(numbers):
    """The piece that has the numbers of a line."""
    start, p, q, d = numbers
    return start, (p, q, d)


def audit(points, error, text):
    """The number of pieces of the cutting that the text writes, or None if it is not accepted."""
    try:
        cutting = read_cutting(text)
    except InvalidPaper:
        return None
    if judge(points, error, cutting):
        return len(cutting.pieces)
    return None
