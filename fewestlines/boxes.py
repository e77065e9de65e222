"""Cells of a square, coded by the digits of their coordinates in turn, and points in boxes."""

from fewestlines.index import Index


def code_of(x, y, bits):
    """The code of a cell: so many binary digits of x and y in turn, x first (point 15.1)."""
    code = 0
    for place in reversed(range(bits)):
        code = code * 4 + (x >> place & 1) * 2 + (y >> place & 1)
    return code


def cell_of(code, bits):
    """The cell (x, y) that has the code."""
    x = 0
    y = 0
    for place in reversed(range(bits)):
        digits = code >> place * 2
        x = x * 2 + (digits >> 1 & 1)
        y = y * 2 + (digits & 1)
    return x, y


def within_square(box, bits):
    """The part of a box that lies within the square; it may have no cells."""
    left, right, low, high = box
    last = (1 << bits) - 1
    return max(left, 0), min(right, last), max(low, 0), min(high, last)


def ranges(box, bits):
    """The fewest ascending ranges (first, last) of the codes of the cells in the box."""
    found = []
    for first, last in whole_blocks(within_square(box, bits), bits):
        if found and found[-1][1] + 1 == first:
            first = found.pop()[0]
        found.append((first, last))
    return found


def whole_blocks(box, bits):
    """The ascending ranges (first, last) of the codes of blocks that make up the box within the square."""
    found = []
    side = 1 << bits
    # Blocks of cells with successive codes, that with the least ones last.
    waiting = [(0, 0, 0, side, side)]
    while waiting:
        block = waiting.pop()
        overlap = overlap_of(block, box)
        if overlap == block[3] * block[4]:
            found.append((block[0], block[0] + overlap - 1))
        elif overlap > 0:
            waiting.extend(halves(block))
    return found


def overlap_of(block, box):
    """The number of cells of the block that are in the box."""
    _, x, y, wide, tall = block
    left, right, low, high = box
    columns = min(x + wide - 1, right) - max(x, left) + 1
    rows = min(y + tall - 1, high) - max(y, low) + 1
    return max(0, columns) * max(0, rows)


def halves(block):
    """The two halves of a block (first code, x, y, wide, tall), that with the greater codes first.

    A square is halved between its columns, because x has the first digit.
    """
    first, x, y, wide, tall = block
    if wide == tall:
        half = wide // 2
        return [(first + half * tall, x + half, y, half, tall), (first, x, y, half, tall)]
    half = tall // 2
    return [(first + half * wide, x, y + half, wide, half), (first, x, y, wide, half)]


class Boxes:
    """Different cells of the square as points, that are found by their codes (point 15.1)."""

    def __init__(self, points, bits, error):
        self._bits = bits
        coded = sorted([(code_of(x, y, bits), (x, y)) for x, y in points])
        self._points = [point for _, point in coded]
        self._index = Index([code for code, _ in coded], error, error)

    def inside(self, box):
        """The points in the box, in ascending order of their codes."""
        left, right, low, high = within_square(box, self._bits)
        # No cell of the box has a code below that of its first corner or above that of its last one.
        first = self._index.rank(code_of(left, low, self._bits) - 1)
        end = self._index.rank(code_of(right, high, self._bits))
        return [(x, y) for x, y in self._points[first:end] if left <= x <= right and low <= y <= high]

    def count(self, box):
        """The number of points in the box."""
        return len(self.inside(box))
