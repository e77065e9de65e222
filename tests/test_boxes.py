"""Point 15.1: codes of cells, ranges of boxes, and points in boxes."""

import random
import time
import unittest
from itertools import product

from fewestlines.boxes import Boxes, cell_of, code_of, ranges

FAR = 10 ** 9
SIDE = 2 ** 20


def written_code(x, y, bits):
    """The code by the written digits of x and y in turn."""
    if bits == 0:
        return 0
    digits = [one + other for one, other in zip(f"{x:0{bits}b}", f"{y:0{bits}b}")]
    return int("".join(digits), 2)


def cells_of(box, bits):
    """The cells of the box in the square, one by one."""
    left, right, low, high = box
    last = 2 ** bits - 1
    return [(x, y) for x in range(max(left, 0), min(right, last) + 1)
            for y in range(max(low, 0), min(high, last) + 1)]


def plain_ranges(box, bits):
    """The ranges of the codes of all cells of the box, with no two that touch."""
    found = []
    for code in sorted(written_code(x, y, bits) for x, y in cells_of(box, bits)):
        if found and found[-1][1] + 1 == code:
            found[-1] = (found[-1][0], code)
        else:
            found.append((code, code))
    return found


def in_box(point, box):
    return box[0] <= point[0] <= box[1] and box[2] <= point[1] <= box[3]


class Codes(unittest.TestCase):
    def test_no_digits(self):
        self.assertEqual(code_of(0, 0, 0), 0)
        self.assertEqual(cell_of(0, 0), (0, 0))

    def test_one_digit(self):
        self.assertEqual([code_of(x, y, 1) for x, y in product(range(2), repeat=2)], [0, 1, 2, 3])
        self.assertEqual(code_of(1, 0, 1), 2)
        self.assertEqual([cell_of(code, 1) for code in range(4)], [(0, 0), (0, 1), (1, 0), (1, 1)])

    def test_two_digits(self):
        self.assertEqual([[code_of(x, y, 2) for y in range(4)] for x in range(4)],
                         [[0, 1, 4, 5], [2, 3, 6, 7], [8, 9, 12, 13], [10, 11, 14, 15]])

    def test_twenty_digits(self):
        self.assertEqual(code_of(SIDE - 1, 0, 20), int("10" * 20, 2))
        self.assertEqual(code_of(0, SIDE - 1, 20), int("01" * 20, 2))
        self.assertEqual(code_of(SIDE - 1, SIDE - 1, 20), SIDE * SIDE - 1)
        self.assertEqual(code_of(SIDE // 2, 0, 20), SIDE * SIDE // 2)
        self.assertEqual(code_of(1, 0, 20), 2)

    def test_written_digits_and_back(self):
        for bits in range(6):
            cells = list(product(range(2 ** bits), repeat=2))
            codes = [code_of(x, y, bits) for x, y in cells]
            self.assertEqual(codes, [written_code(x, y, bits) for x, y in cells])
            self.assertEqual(sorted(codes), list(range(4 ** bits)))
            self.assertEqual([cell_of(code, bits) for code in codes], cells)
        draw = random.Random(150)
        for bits in range(6, 21):
            for _ in range(40):
                x, y = draw.randrange(2 ** bits), draw.randrange(2 ** bits)
                self.assertEqual(code_of(x, y, bits), written_code(x, y, bits))
                self.assertEqual(cell_of(code_of(x, y, bits), bits), (x, y))


class Ranges(unittest.TestCase):
    def test_all_boxes_of_small_squares(self):
        for bits in range(4):
            side = 2 ** bits
            sides = [(a, b) for a in range(-2, side + 2) for b in range(-2, side + 2) if a <= b + 1]
            if bits == 3:
                sides = sides[::4] + [(-1, side), (0, side - 1)]
            for (left, right), (low, high) in product(sides, sides):
                box = (left, right, low, high)
                self.assertEqual(ranges(box, bits), plain_ranges(box, bits), (box, bits))

    def test_some_boxes_of_larger_squares(self):
        draw = random.Random(151)
        for bits in (4, 5, 6):
            for _ in range(60):
                box = tuple(draw.randint(-3, 2 ** bits + 3) for _ in range(4))
                self.assertEqual(ranges(box, bits), plain_ranges(box, bits), (box, bits))

    def test_no_cells(self):
        for bits in (0, 1, 3, 20):
            side = 2 ** bits
            for box in [(1, 0, 0, 0), (0, 0, 1, 0), (1, 0, 1, 0), (FAR, -FAR, 0, 0), (0, side, side, 0),
                        (side, side, 0, 0), (0, 0, side, side), (-1, -1, 0, 0), (0, 0, -1, -1),
                        (-FAR, -1, -FAR, FAR), (-FAR, FAR, side, FAR), (side // 2 + 1, side // 2, 0, FAR),
                        (0, FAR, side // 2 + 1, side // 2)]:
                self.assertEqual(ranges(box, bits), [], (box, bits))

    def test_the_whole_square(self):
        for bits in range(21):
            side = 2 ** bits
            for box in [(0, side - 1, 0, side - 1), (-1, side, -1, side), (-FAR, FAR, -FAR, FAR)]:
                self.assertEqual(ranges(box, bits), [(0, side * side - 1)])

    def test_one_cell(self):
        self.assertEqual(ranges((0, 0, 0, 0), 0), [(0, 0)])
        self.assertEqual(ranges((-5, 5, 0, 0), 0), [(0, 0)])
        for x, y in [(0, 0), (SIDE - 1, SIDE - 1), (123456, 654321), (0, SIDE - 1)]:
            code = written_code(x, y, 20)
            self.assertEqual(ranges((x, x, y, y), 20), [(code, code)])

    def test_ranges_that_touch_are_one(self):
        self.assertEqual(ranges((1, 1, 0, 3), 2), [(2, 3), (6, 7)])
        self.assertEqual(ranges((0, 1, 2, 3), 2), [(4, 7)])
        self.assertEqual(ranges((2, 3, 0, 1), 2), [(8, 11)])
        # The cells (0, 1) and (0, 2) have the codes 1 and 4, (1, 1) and (1, 2) the codes 3 and 6.
        self.assertEqual(ranges((0, 3, 1, 2), 2), [(1, 1), (3, 4), (6, 6), (9, 9), (11, 12), (14, 14)])

    def test_halves_and_quarters_of_twenty_bits(self):
        whole, half = SIDE * SIDE, SIDE // 2
        self.assertEqual(ranges((0, half - 1, -9, FAR), 20), [(0, whole // 2 - 1)])
        self.assertEqual(ranges((half, FAR, 0, SIDE), 20), [(whole // 2, whole - 1)])
        self.assertEqual(ranges((0, SIDE, 0, half - 1), 20),
                         [(0, whole // 4 - 1), (whole // 2, whole * 3 // 4 - 1)])
        self.assertEqual(ranges((half, SIDE, half, SIDE), 20), [(whole * 3 // 4, whole - 1)])

    def test_boxes_of_twenty_bits_cell_by_cell(self):
        draw = random.Random(152)
        middle = SIDE // 2
        corners = [(middle - 60, middle - 70), (0, 0), (SIDE - 90, SIDE - 90), (-30, middle - 1)]
        corners += [(draw.randrange(SIDE), draw.randrange(SIDE)) for _ in range(6)]
        for left, low in corners:
            for wide, tall in [(1, 1), (100, 120), (1, 3000), (3000, 1), (2, 900), (37, 64)]:
                box = (left, left + wide - 1, low, low + tall - 1)
                self.assertEqual(ranges(box, 20), plain_ranges(box, 20), box)

    def test_ten_thousand_ranges_in_reasonable_time(self):
        middle = SIDE // 2
        most = 0
        for box in [(middle - 2500, middle + 2400, middle - 2300, middle + 2600),
                    (77, 77, middle - 9999, middle + 9999), (middle - 4999, middle + 4999, 5, 5),
                    (middle - 1, middle, middle - 9000, middle + 9000), (300001, 304000, 700001, 705000)]:
            start = time.perf_counter()
            found = ranges(box, 20)
            self.assertLess(time.perf_counter() - start, 5)
            most = max(most, len(found))
            self.check_large(box, found)
        self.assertGreater(most, 9000)

    def check_large(self, box, found):
        """Check the number of cells, the order, that no two touch, and cells at the ends of the ranges."""
        left, right, low, high = box
        self.assertEqual(sum(last - first + 1 for first, last in found), (right - left + 1) * (high - low + 1))
        for (_, last), (first, _) in zip(found, found[1:]):
            self.assertGreater(first, last + 1)
        for first, last in found:
            self.assertLessEqual(first, last)
            for code in {first, last, (first + last) // 2}:
                self.assertTrue(in_box(cell_of(code, 20), box))

    def test_answers_are_new_lists(self):
        first = ranges((0, 2, 0, 2), 2)
        first.clear()
        self.assertEqual(ranges((0, 2, 0, 2), 2), plain_ranges((0, 2, 0, 2), 2))


class Points(unittest.TestCase):
    def check(self, points, bits, error, boxes):
        given = list(points)
        made = Boxes(points, bits, error)
        ordered = sorted(points, key=lambda point: written_code(*point, bits))
        for box in boxes:
            wanted = [point for point in ordered if in_box(point, box)]
            found = made.inside(box)
            self.assertEqual(found, wanted, (box, bits))
            self.assertEqual(made.count(box), len(wanted))
            found.clear()
            self.assertEqual(made.inside(box), wanted)
        self.assertEqual(points, given)

    def boxes_in(self, draw, bits, many):
        """So many boxes, empty ones, those beyond the square and the whole square among them."""
        side = 2 ** bits
        found = [(0, side - 1, 0, side - 1), (-FAR, FAR, -FAR, FAR), (1, 0, 0, side), (0, side, 1, 0),
                 (side, FAR, 0, side), (-FAR, -1, 0, side), (0, 0, 0, 0), (0, side, side, FAR),
                 (side - 1, side - 1, side - 1, side - 1)]
        for _ in range(many):
            found.append(tuple(draw.randint(-side // 4, side + side // 4) for _ in range(4)))
        for _ in range(many):
            left, low = draw.randrange(side), draw.randrange(side)
            found.append((left, left + draw.randint(0, side // 3), low, low + draw.randint(0, side // 3)))
        return found

    def test_all_points_one_by_one(self):
        draw = random.Random(153)
        for bits in (0, 1, 2, 3, 5, 9, 20):
            side = 2 ** bits
            for many in (0, 1, 2, 10, 60):
                points = list({(draw.randrange(side), draw.randrange(side)) for _ in range(many)})
                for error in (0, 1, 8):
                    self.check(points, bits, error, self.boxes_in(draw, bits, 12))

    def test_all_cells(self):
        draw = random.Random(154)
        for bits in (0, 1, 2, 4):
            cells = list(product(range(2 ** bits), repeat=2))
            draw.shuffle(cells)
            self.check(cells, bits, 1, self.boxes_in(draw, bits, 30))

    def test_no_points(self):
        made = Boxes([], 4, 2)
        self.assertEqual((made.inside((0, 15, 0, 15)), made.count((0, 15, 0, 15))), ([], 0))
        self.assertEqual((made.inside((3, 2, 0, 0)), made.count((3, 2, 0, 0))), ([], 0))

    def test_points_on_the_sides_of_the_box(self):
        points = [(x, y) for x in (2, 3, 6, 7) for y in (1, 2, 5, 6)]
        made = Boxes(points, 3, 0)
        self.assertEqual(sorted(made.inside((3, 6, 2, 5))), [(3, 2), (3, 5), (6, 2), (6, 5)])
        self.assertEqual(made.count((3, 6, 2, 5)), 4)
        self.assertEqual(made.count((3, 3, 2, 2)), 1)
        self.assertEqual(made.count((4, 5, 3, 4)), 0)

    def test_the_order_is_that_of_the_codes(self):
        made = Boxes([(1, 1), (0, 2), (2, 0), (0, 0), (1, 0)], 2, 0)
        self.assertEqual(made.inside((0, 3, 0, 3)), [(0, 0), (1, 0), (1, 1), (0, 2), (2, 0)])

    def test_the_list_is_copied(self):
        points = [(1, 1), (0, 2)]
        made = Boxes(points, 2, 0)
        points.clear()
        self.assertEqual(made.inside((0, 3, 0, 3)), [(1, 1), (0, 2)])

    def test_many_points_in_a_large_square(self):
        draw = random.Random(155)
        points = list({(draw.randrange(SIDE), draw.randrange(SIDE)) for _ in range(1000)}
                      | {(SIDE // 2 + k * k, SIDE // 2 - 3 * k) for k in range(-400, 600)})
        start = time.perf_counter()
        self.check(points, 20, 4, self.boxes_in(draw, 20, 30))
        self.assertLess(time.perf_counter() - start, 20)


if __name__ == "__main__":
    unittest.main()
