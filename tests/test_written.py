"""Points 8.1 to 8.3: written cuttings, their reading, and the audit of texts."""

import unittest

from fewestlines.cuttings import Cutting, cut, judge
from fewestlines.written import audit, read_cutting, write_cutting
from papers import WrongTexts
from samples import BIG, errors_for, point_lists, with_item

POINTS = [(0, 0), (1, 1), (2, 2), (3, 10), (4, 12), (5, 14), (6, 0), (7, 0)]
PIECES = [(0, (1, 0, 1)), (3, (2, 4, 1)), (6, (0, 0, 1))]
REASONS = [(1, 2, 3), (4, 5, 6)]
TEXT = ("cutting\npiece 0 1 0 1\nreason 1 2 3\npiece 3 2 4 1\nreason 4 5 6\npiece 6 0 0 1")


class Writing(unittest.TestCase):
    def test_exact_lines(self):
        self.assertEqual(write_cutting(Cutting(PIECES, REASONS)), TEXT)

    def test_no_pieces(self):
        self.assertEqual(write_cutting(Cutting([], [])), "cutting")
        self.assertEqual(write_cutting(cut([], 3)), "cutting")

    def test_numbers_below_zero_and_large_ones(self):
        cutting = Cutting([(0, (-1, -20, 3)), (2, (0, 0, 1))], [(0, 1, 2)])
        self.assertEqual(write_cutting(cutting), "cutting\npiece 0 -1 -20 3\nreason 0 1 2\npiece 2 0 0 1")
        cutting = Cutting([(0, (-BIG * BIG, BIG * BIG, BIG))], [])
        self.assertEqual(write_cutting(cutting), f"cutting\npiece 0 -1{'0' * 36} 1{'0' * 36} 1{'0' * 18}")

    def test_wrong_cuttings(self):
        # What only the judge or the reader asks is written as it is.
        cutting = Cutting([(-4, (0, 0, 0)), (-9, (1, 1, -1))], [])
        self.assertEqual(write_cutting(cutting), "cutting\npiece -4 0 0 0\npiece -9 1 1 -1")
        cutting = Cutting([(0, (0, 0, 1))], [(3, 2, -1), (5, 5, 5)])
        self.assertEqual(write_cutting(cutting), "cutting\npiece 0 0 0 1\nreason 3 2 -1")

    def test_the_cutting_stays_as_it_was(self):
        cutting = Cutting(PIECES, REASONS)
        write_cutting(cutting)
        self.assertEqual((cutting.pieces, cutting.reasons), (PIECES, REASONS))


class Reading(WrongTexts, unittest.TestCase):
    RIGHT = TEXT
    read = staticmethod(read_cutting)

    def test_what_was_written(self):
        several = 0
        for points in point_lists():
            for error in errors_for(points):
                cutting = cut(points, error)
                again = read_cutting(write_cutting(cutting))
                self.assertIsInstance(again, Cutting)
                self.assertEqual((again.pieces, again.reasons), (cutting.pieces, cutting.reasons))
                several += len(again.pieces) > 2
        self.assertGreater(several, 100)

    def test_kinds_of_what_is_read(self):
        again = read_cutting(TEXT)
        self.assertEqual((again.pieces, again.reasons), (PIECES, REASONS))
        self.assertEqual({type(row) for row in again.pieces + again.reasons}, {tuple})
        again = read_cutting("cutting")
        self.assertEqual((again.pieces, again.reasons), ([], []))

    def test_what_only_the_judge_asks(self):
        for pieces, reasons in [([(9, (0, 0, 0)), (9, (5, -7, 4)), (0, (0, 0, 1))], [(3, 2, 1), (0, 0, 0)]),
                                ([(10 ** 59, (0, 0, 10 ** 60 - 1))], []),
                                ([(7, (-5, -6, 0))], [])]:
            again = read_cutting(write_cutting(Cutting(pieces, reasons)))
            self.assertEqual((again.pieces, again.reasons), (pieces, reasons))

    def test_wrong_first_lines(self):
        for line in ["", " cutting", "cutting ", "Cutting", "cuttings", "cutting 0", "cut", "piece 0 0 0 1",
                     "cutting\t", "plan"]:
            self.check_line(1, line)
            self.check(line, 1)
        self.check("", 1)
        self.check("\n", 1)
        self.check("\ncutting", 1)
        self.check("\n".join(TEXT.split("\n")[1:]), 1)

    def test_wrong_words_and_their_number(self):
        for number in (2, 4, 6):
            for line in ["Piece 0 0 0 1", "pieces 0 0 0 1", "piece", "0 0 0 1", "piece 0 0 0", "piece 0 0 0 1 1",
                         "x piece 0 0 0 1", "cutting", "piece 0 (0 0 1)", "piece 0 0 0 1 # one"]:
                self.check_line(number, line)
        for number in (3, 5):
            for line in ["Reason 0 1 2", "reasons 0 1 2", "reason", "0 1 2", "reason 0 1", "reason 0 1 2 3",
                         "reason 0, 1, 2", "cutting"]:
                self.check_line(number, line)

    def test_blanks_tabs_and_empty_lines(self):
        for number, right in enumerate(TEXT.split("\n"), start=1):
            for wrong in ["", " ", " " + right, right + " ", right + "\t", "\t" + right,
                          right + "  ", "  " + right]:
                self.check_line(number, wrong)
            if number > 1:
                self.check_line(number, right.replace(" ", "  ", 1))
                self.check_line(number, right[::-1].replace(" ", "  ", 1)[::-1])
                self.check_line(number, right.replace(" ", "\t", 1))
                self.check_line(number, right.replace(" ", " \t", 1))

    def test_newline_at_the_end(self):
        self.check(TEXT + "\n", 7)
        self.check(TEXT + "\n\n", 7)
        self.check("cutting\n", 2)
        self.check("cutting\npiece 0 0 0 1\n", 3)
        self.check("cutting\npiece 0 0 0 1\nreason 0 1 2\n", 4)

    def test_texts_that_end_too_early(self):
        lines = TEXT.split("\n")
        self.check("\n".join(lines[:3]), 4)
        self.check("\n".join(lines[:5]), 6)
        for count in (1, 2, 4, 6):
            self.assertEqual(len(read_cutting("\n".join(lines[:count])).pieces), count // 2)

    def test_lines_at_wrong_places(self):
        piece, reason = "piece 0 0 0 1", "reason 0 1 2"
        for rows, line in [([reason], 2), ([reason, piece], 2), ([piece, piece], 3),
                           ([piece, reason, reason], 4), ([piece, reason, reason, piece], 4),
                           ([piece, reason, piece, piece], 5), ([piece, reason], 4),
                           ([piece, reason, piece, reason], 6), (["cutting"], 2), ([piece, "cutting"], 3)]:
            self.check("\n".join(["cutting"] + rows), line)

    def test_the_first_wrong_line_counts(self):
        self.check("cutting\npiece 0 0 0 1\nreason 0 1\npiece x", 3)
        self.check("cut\npiece x", 1)
        self.check("cutting\npiece x\nreason y", 2)

    def lines_with(self, word):
        """Pairs of the number of a line, and the line with the word at one of its numbers."""
        lines = TEXT.split("\n")
        for number in range(2, len(lines) + 1):
            words = lines[number - 1].split(" ")
            for at in range(1, len(words)):
                yield number, at, " ".join(with_item(words, at, word))

    def test_numbers_of_a_wrong_form(self):
        for word in ["00", "01", "007", "-0", "-00", "-01", "+1", "+0", "--1", "-", "", "x", "1x", "x1",
                     "1.0", "1e3", "1_0", "0x1", "1,", "- 1", "1-", "\t1", "1\t", "~", "/", ":", "\\1"]:
            for number, _, line in self.lines_with(word):
                self.check_line(number, line)

    def test_minus_only_where_it_may_stand(self):
        seen = 0
        for word in ["-1", "-12", "-" + "9" * 60]:
            for number, at, line in self.lines_with(word):
                if line.startswith("piece") and at in (2, 3):
                    text = "\n".join(with_item(TEXT.split("\n"), number - 1, line))
                    read = read_cutting(text).pieces[number // 2 - 1][1]
                    self.assertEqual(read[at - 2], int(word))
                    seen += 1
                else:
                    self.check_line(number, line)
        self.assertEqual(seen, 18)

    def test_sixty_digits_and_one_more(self):
        for digits in ["1" * 60, "9" * 60, "1" + "0" * 59]:
            for number, at, line in self.lines_with(digits):
                read_cutting("\n".join(with_item(TEXT.split("\n"), number - 1, line)))
            for number, at, line in self.lines_with(digits + "0"):
                self.check_line(number, line)
            for number, at, line in self.lines_with("-" + digits + "0"):
                self.check_line(number, line)
        self.assertEqual(read_cutting("cutting\npiece 0 -" + "9" * 60 + " 0 1").pieces,
                         [(0, (1 - 10 ** 60, 0, 1))])
        self.check("cutting\npiece 0 " + "0" * 60 + " 0 1", 2)
        self.check("cutting\npiece 0 " + "7" * 5000 + " 0 1", 2)


class Audits(unittest.TestCase):
    def test_right_cuttings(self):
        self.assertEqual(audit(POINTS, 0, TEXT), 3)
        self.assertEqual(audit([], 5, "cutting"), 0)
        for points in point_lists():
            for error in errors_for(points):
                cutting = cut(points, error)
                self.assertEqual(audit(points, error, write_cutting(cutting)), len(cutting.pieces))

    def test_texts_that_cannot_be_read(self):
        for text in ["", "cutting\n", TEXT + "\n", TEXT + "\nreason 6 7 8", "\t", "piece 0 0 0 1", "~" * 99,
                     TEXT.replace("reason", "reasons"), TEXT.replace(" 0", " 00"), TEXT.replace("1", "-1"),
                     TEXT.replace("6 0 0 1", "6 0 0 " + "1" * 61)]:
            self.assertIsNone(audit(POINTS, 0, text))
            self.assertIsNone(audit([], 0, text))

    def test_cuttings_that_are_not_accepted(self):
        self.assertIsNone(audit(POINTS, 0, "cutting"))
        self.assertIsNone(audit([], 0, TEXT))
        self.assertIsNone(audit(POINTS[:-2], 0, TEXT))
        self.assertIsNone(audit(POINTS, 9, TEXT))
        for old, new in [("piece 0", "piece 1"), ("piece 3", "piece 2"), ("piece 6", "piece 8"),
                         ("piece 6", "piece " + "9" * 60), ("1 0 1", "1 1 1"), ("2 4 1", "2 4 0"),
                         ("0 0 1", "0 0 0"), ("1 2 3", "3 2 1"), ("1 2 3", "0 1 2"), ("4 5 6", "4 5 7"),
                         ("4 5 6", "5 6 " + "9" * 60), ("1 2 3", "1 2 4")]:
            text = TEXT.replace(old, new)
            self.assertNotEqual(text, TEXT)
            read = read_cutting(text)
            self.assertIs(judge(POINTS, 0, read), False)
            self.assertIsNone(audit(POINTS, 0, text), text)

    def test_points_stay_as_they_were(self):
        points = list(POINTS)
        audit(points, 0, TEXT)
        self.assertEqual(points, POINTS)


if __name__ == "__main__":
    unittest.main()
