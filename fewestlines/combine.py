"""Lists of pieces (start, line) that are added, scaled, cut out and repeated."""

from fewestlines.lines import reduced
from fewestlines.parts import parts, piece_at


def added(one, other):
    """The pieces of the sums of the heights of two lists of pieces (point 13.1)."""
    starts = sorted(set([start for start, _ in one + other]))
    return [(start, line_sum(line_over(one, start), line_over(other, start))) for start in starts]


def line_over(pieces, index):
    """The line of the piece that has the index."""
    return pieces[piece_at(pieces, index)][1]


def line_sum(one, other):
    """The line whose heights are the sums of those of two lines."""
    p, q, d = one
    r, s, c = other
    return reduced((p * c + r * d, q * c + s * d, d * c))


def scaled(pieces, factor):
    """The pieces of the heights multiplied by the factor."""
    return [(start, reduced((p * factor, q * factor, d))) for start, (p, q, d) in pieces]


def part_of(pieces, a, b):
    """The pieces that reach into the indexes from a up to b, b left out, as a list from 0 on."""
    return [(first - a, moved(line, -a)) for first, _, line in parts(pieces, a, b)]


def repeated(pieces, length, times):
    """The pieces of a list of the length, put one after another so many times."""
    found = []
    for offset in range(0, times * length, length):
        found.extend([(start + offset, moved(line, offset)) for start, line in pieces])
    return found


def moved(line, offset):
    """The line that has at each place the height that was the offset before it."""
    p, q, d = line
    return reduced((p, q - p * offset, d))
