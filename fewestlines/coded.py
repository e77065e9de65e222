"""Lists of integers that are coded by lines and small corrections."""

from fewestlines.cuttings import cut
from fewestlines.least import enough_error, least_error
from fewestlines.lines import floor_at
from fewestlines.parts import parts, piece_at, points_of
from fewestlines.reaches import Reaches


class Coded:
    """A list of integers, as the pieces of its cut and a correction for each value (point 7.1)."""

    def __init__(self, values, error):
        self.pieces = cut(points_of(values), error).pieces
        floors = floors_over(self.pieces, len(values))
        self.corrections = [value - floor for value, floor in zip(values, floors)]

    def value_at(self, index):
        """The value with the index."""
        line = self.pieces[piece_at(self.pieces, index)][1]
        return floor_at(line, index) + self.corrections[index]

    def decoded(self):
        """All values."""
        floors = floors_over(self.pieces, len(self.corrections))
        return [floor + correction for floor, correction in zip(floors, self.corrections)]


def floors_over(pieces, length):
    """The floors of the lines of the pieces at all indexes of a list of the length."""
    floors = []
    for first, end, line in parts(pieces, 0, length):
        floors.extend([floor_at(line, index) for index in range(first, end)])
    return floors


def width(error):
    """The number of binary digits that tell all corrections from -error to error apart (point 7.2)."""
    return (2 * error).bit_length()


def error_of_width(width):
    """The greatest error that has at most the width."""
    return (1 << max(0, width - 1)) - 1


def room(values, error, header):
    """The room of the code of the values for the error."""
    return room_of(len(cut(points_of(values), error).pieces), len(values), width(error), header)


def room_of(pieces, length, digits, header):
    """The room of so many pieces of a list of the length, with so many digits for each value."""
    return pieces * header + length * digits


def best_error(values, header):
    """The least error among those with the least room."""
    if not values:
        return 0
    points = points_of(values)
    reaches = Reaches(points)
    best = None
    # The greatest error of a width has the fewest pieces that this width can
    # have; wider ones than this last width have no fewer, and more room.
    for digits in range(width(enough_error(points)) + 1):
        pieces = reaches.stretch(error_of_width(digits))[2]
        needed = room_of(pieces, len(values), digits, header)
        if best is None or needed < best[0]:
            best = (needed, pieces)
    # A narrower width with so few pieces would have needed less room, and a
    # list with the header 0 needs none for the error 0.
    return least_error(points, best[1])
