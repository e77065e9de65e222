"""Values of a list as points, and the pieces (start, line) over ranges of their indexes."""


def points_of(values):
    """The points (index, value) of a list of values."""
    return list(enumerate(values))


def piece_at(pieces, index):
    """The place in the list of the piece that has the index; the pieces begin with the start 0."""
    first, last = 0, len(pieces) - 1
    while first < last:
        middle = (first + last + 1) // 2
        if pieces[middle][0] <= index:
            first = middle
        else:
            last = middle - 1
    return first


def parts(pieces, a, b):
    """The parts (first, end, line) of the pieces from the index a up to b, b and each end left out."""
    found = []
    if a >= b:
        return found
    at = piece_at(pieces, a)
    while at < len(pieces) and pieces[at][0] < b:
        start, line = pieces[at]
        end = b
        if at + 1 < len(pieces):
            end = min(b, pieces[at + 1][0])
        found.append((max(a, start), end, line))
        at += 1
    return found
