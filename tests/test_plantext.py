"""Point 17.5: written plans, their reading, and the audit of texts."""

import unittest

from fewestlines.plantext import audit_plan, read_plan, write_plan
from fewestlines.rooms import Plan, best_plan, judge_plan, plan_room
from papers import WrongTexts
from samples import BIG, value_lists, with_item

# For the header 5 three pieces of width 0 are best.
VALUES = [0, 4, 0, 4, 0, 4]
HEADER = 5
ROW = [(2, (0, 1, 2)), (3, (1, 2, 3)), (4, (2, 3, 4)), (5, (3, 4, 5)), (6, None), (6, None)]
PIECES = [(0, 0, (4, 0, 1)), (2, 0, (4, -8, 1)), (4, 0, (4, -16, 1))]
REACHES = [ROW, ROW, ROW, [(6, None)] * 6]
PRICES = [0, 5, 5, 10, 10, 15, 15]
TEXT = "\n".join([
    "plan",
    "piece 0 0 4 0 1",
    "piece 2 0 4 -8 1",
    "piece 4 0 4 -16 1",
    "reaches 2,0,1,2 3,1,2,3 4,2,3,4 5,3,4,5 6 6",
    "reaches 2,0,1,2 3,1,2,3 4,2,3,4 5,3,4,5 6 6",
    "reaches 2,0,1,2 3,1,2,3 4,2,3,4 5,3,4,5 6 6",
    "reaches 6 6 6 6 6 6",
    "prices 0 5 5 10 10 15 15",
])


def lists_of(plan):
    """All that a plan has."""
    return plan.pieces, plan.reaches, plan.prices


class Writing(unittest.TestCase):
    def test_exact_lines(self):
        self.assertEqual(write_plan(Plan(PIECES, REACHES, PRICES)), TEXT)

    def test_no_values(self):
        self.assertEqual(write_plan(Plan([], [[]], [0])), "plan\nreaches\nprices 0")
        self.assertEqual(write_plan(Plan([], [[], []], [0, 3])), "plan\nreaches\nreaches\nprices 0 3")
        self.assertEqual(write_plan(best_plan([], 9)), "plan\nreaches\nprices 0")

    def test_one_value(self):
        plan = best_plan([-7], 3)
        p, q, d = plan.pieces[0][2]
        self.assertEqual(write_plan(plan), f"plan\npiece 0 0 {p} {q} {d}\nreaches 1\nprices 0 3")

    def test_numbers_below_zero_and_large_ones(self):
        plan = Plan([(0, 100, (-BIG * BIG, -1, BIG))], [[(-3, (-2, -1, 0))]], [-5, 0])
        self.assertEqual(write_plan(plan), f"plan\npiece 0 100 -{BIG * BIG} -1 {BIG}\nreaches -3,-2,-1,0\nprices -5 0")

    def test_the_plan_stays_as_it_was(self):
        plan = Plan(PIECES, REACHES, PRICES)
        write_plan(plan)
        self.assertEqual(lists_of(plan), (PIECES, REACHES, PRICES))


class Reading(unittest.TestCase):
    def test_what_was_written(self):
        reasons = 0
        for values in value_lists():
            for header in (0, 3, 50):
                plan = best_plan(values, header)
                again = read_plan(write_plan(plan))
                self.assertIsInstance(again, Plan)
                self.assertEqual(lists_of(again), lists_of(plan))
                reasons += len([why for row in again.reaches for _, why in row if why is not None])
        self.assertGreater(reasons, 1000)

    def test_kinds_of_what_is_read(self):
        again = read_plan(TEXT)
        self.assertEqual(lists_of(again), (PIECES, REACHES, PRICES))
        rows = again.pieces + [reach for row in again.reaches for reach in row] + [piece[2] for piece in again.pieces]
        self.assertEqual({type(row) for row in rows}, {tuple})
        self.assertEqual({type(reach[1]) for row in again.reaches for reach in row}, {tuple, type(None)})

    def test_reaches_without_a_word(self):
        for rows in (1, 2, 5):
            plan = read_plan("plan" + "\nreaches" * rows + "\nprices 0")
            self.assertEqual(lists_of(plan), ([], [[]] * rows, [0]))
        plan = read_plan("plan\npiece 0 0 0 0 1\nreaches 4\nreaches\nreaches 4,1,2,3\nprices 9 8")
        self.assertEqual(lists_of(plan), ([(0, 0, (0, 0, 1))], [[(4, None)], [], [(4, (1, 2, 3))]], [9, 8]))

    def test_only_the_form_is_read(self):
        most = "9" * 60
        for text in [f"plan\npiece {most} {most} -{most} -{most} {most}\nreaches {most},{most},{most},{most}\nprices {most}",
                     "plan\npiece 5 0 0 0 0\npiece 5 9 0 0 0\nreaches 0,3,2,1 9\nprices 7", "plan\nreaches 3\nprices 1 0"]:
            self.assertEqual(write_plan(read_plan(text)), text)

    def test_two_thousand_values(self):
        values = [(k * k * 7919 + k * 31) % 1009 for k in range(2000)]
        plan = best_plan(values, 20)
        text = write_plan(plan)
        self.assertEqual(lists_of(read_plan(text)), lists_of(plan))
        self.assertEqual(audit_plan(values, 20, text), plan.prices[-1])


class WrongPlans(WrongTexts, unittest.TestCase):
    RIGHT = TEXT
    read = staticmethod(read_plan)

    def test_the_first_line(self):
        for line in ("", "Plan", "plans", " plan", "plan ", "plan 0", "cutting", "piece 0 0 0 0 1", "plan\t"):
            self.check_line(1, line)
            self.check(line, 1)
        self.check("\n" + TEXT, 1)

    def test_pieces(self):
        for number in (2, 3, 4):
            for line in ("piece", "piece 0 0 4 0", "piece 0 0 4 0 1 1", "Piece 0 0 4 0 1", "pieces 0 0 4 0 1",
                         "0 0 4 0 1", "piece 0,0 4 0 1", "reason 0 1 2", "plan", "prices 0"):
                self.check_line(number, line)

    def test_reaches(self):
        for number in (5, 6, 7, 8):
            for word in ("", ",", "6,", ",6", "6,0", "6,0,1", "6,0,1,2,3", "6,0,1,2,", "6,,1,2", "6, 0,1,2", "6.0",
                         "6;0;1;2", "6,0,1,x", "none", "6,None", "(6)", "-6", "6,-1,1,2", "6,0,1,-2", "06", "6,00,1,2",
                         "6,0,01,2", "-0", "+6", "6,0,+1,2", "1" * 61, f"6,0,1,{'1' * 61}", "6,0,1,2\t", "\t6"):
                for line in (f"reaches {word}", f"reaches 6 {word} 6", f"reaches 6 {word}"):
                    self.check_line(number, line)
            for line in ("Reaches 6", "reach 6", "reaches6", "6 6 6"):
                self.check_line(number, line)
        self.check_line(5, "prices 0")

    def test_prices(self):
        for line in ("prices", "prices ", "Prices 0", "price 0", "0 5", "prices 0  5", "prices 0 5 ", "prices  0",
                     "prices -5", "prices 0 -5", "prices 00", "prices -0", "prices +1", "prices 0,5", "prices 0 x",
                     f"prices {'1' * 61}", "prices none", "prices 0\t5"):
            self.check_line(9, line)

    def test_numbers_of_pieces_of_a_wrong_form(self):
        for word in ("00", "01", "-0", "-00", "+1", "--1", "-", "", "x", "1.0", "1_0", "1,", "1" * 61, "-" + "1" * 61,
                     "9" * 5000):
            for number in (2, 3, 4):
                words = TEXT.split("\n")[number - 1].split(" ")
                for at in range(1, 6):
                    self.check_line(number, " ".join(with_item(words, at, word)))

    def test_minus_only_for_p_and_q(self):
        for number in (2, 3, 4):
            words = TEXT.split("\n")[number - 1].split(" ")
            for at in (1, 2, 5):
                self.check_line(number, " ".join(with_item(words, at, "-1")))
            for at in (3, 4):
                text = "\n".join(with_item(TEXT.split("\n"), number - 1, " ".join(with_item(words, at, "-1"))))
                self.assertEqual(read_plan(text).pieces[number - 2][2][at - 3], -1)

    def test_blanks_tabs_and_empty_lines(self):
        for number, right in enumerate(TEXT.split("\n"), start=1):
            for wrong in ("", " ", " " + right, right + " ", right + "\t", "\t" + right):
                self.check_line(number, wrong)
            if " " in right:
                self.check_line(number, right.replace(" ", "  ", 1))
                self.check_line(number, right.replace(" ", "\t", 1))
                self.check_line(number, right[::-1].replace(" ", "  ", 1)[::-1])

    def test_newlines_at_the_end(self):
        self.check(TEXT + "\n", 10)
        self.check(TEXT + "\n\n", 10)
        self.check("plan\n", 2)
        self.check("plan\nreaches\n", 3)

    def test_something_behind_the_prices(self):
        for line in ("prices 0", "reaches", "piece 0 0 0 0 1", "x", "plan"):
            self.check(TEXT + "\n" + line, 10)
        self.check("plan\nreaches\nprices 0\nprices 0", 4)

    def test_texts_that_end_too_early(self):
        lines = TEXT.split("\n")
        for count in range(1, 9):
            self.check("\n".join(lines[:count]), count + 1)
        self.check("plan", 2)
        self.check("plan\nreaches", 3)
        self.check("plan\npiece 0 0 0 0 1", 3)

    def test_lines_in_a_wrong_order(self):
        piece, reaches, prices = "piece 0 0 0 0 1", "reaches 1", "prices 0 1"
        for rows, line in [([prices], 2), ([prices, reaches], 2), ([piece, prices], 3), ([reaches, piece, prices], 3),
                           ([piece, prices, reaches], 3), ([piece, reaches, piece, reaches, prices], 4),
                           ([reaches, prices, reaches], 4), ([piece, reaches, prices, piece], 5),
                           ([piece, piece, prices], 4), (["plan", reaches, prices], 2)]:
            self.check("\n".join(["plan"] + rows), line)
        self.assertEqual(len(read_plan("\n".join(["plan", piece, piece, reaches, reaches, prices])).pieces), 2)

    def test_the_first_wrong_line_counts(self):
        self.check("plan\npiece 0\nreaches x\nprices", 2)
        self.check("plan\npiece 0 0 0 0 1\nreaches x\nprices", 3)
        self.check("plan\nreaches 1\nprices x\nprices", 3)
        self.check("x\npiece 0", 1)


class Audits(unittest.TestCase):
    def test_right_plans(self):
        self.assertEqual(audit_plan(VALUES, HEADER, TEXT), 15)
        self.assertEqual(audit_plan([], 7, "plan\nreaches\nprices 0"), 0)
        for values in value_lists():
            for header in (0, 4, 10 ** 6):
                plan = best_plan(values, header)
                self.assertEqual(audit_plan(values, header, write_plan(plan)), plan_room(values, header, plan))

    def test_plans_that_are_not_accepted(self):
        self.assertIsNone(audit_plan(VALUES, 6, TEXT))
        self.assertIsNone(audit_plan(VALUES[:-1], HEADER, TEXT))
        self.assertIsNone(audit_plan([], HEADER, TEXT))
        self.assertIsNone(audit_plan(VALUES, HEADER, "plan\nreaches\nprices 0"))
        most = "9" * 60
        for old, new in [("piece 0 0", "piece 1 0"), ("piece 2", "piece 4"), ("piece 4 0", f"piece {most} 0"),
                         ("piece 4 0", "piece 4 101"), ("piece 4 0", f"piece 4 {most}"), ("4 -16 1", "4 -15 1"),
                         ("4 -16 1", "4 -16 0"), ("-16 1", f"-{most} 1"), ("2,0,1,2", "2"), ("2,0,1,2", "0,0,1,2"),
                         ("2,0,1,2", "2,0,2,1"), ("2,0,1,2", f"2,0,1,{most}"), ("2,0,1,2", f"{most},0,1,2"),
                         ("3,1,2,3", "3,0,1,2"), ("6 6 6 6", "6 6 5 6"), ("6 6 6 6 6 6", "6 6 6 6 6"),
                         ("6 6 6 6 6 6", "2,0,1,2 6 6 6 6 6"), ("6 6 6 6 6 6", f"{most} 6 6 6 6 6"),
                         ("0 5 5", "1 5 5"), ("0 5 5", "0 6 5"), ("15 15", "15 16"), ("15 15", "15 14"),
                         ("15 15", f"15 {most}"), ("15 15", "15"), ("15 15", "15 15 15")]:
            text = TEXT.replace(old, new)
            self.assertNotEqual(text, TEXT)
            self.assertIs(judge_plan(VALUES, HEADER, read_plan(text)), False, text)
            self.assertIsNone(audit_plan(VALUES, HEADER, text))

    def test_texts_that_cannot_be_read(self):
        for text in ("", "\n", "plan", TEXT + "\n", TEXT[1:], TEXT[:-3], TEXT.replace(" ", "  "), "\t" * 50,
                     TEXT.replace("1", "-1"), TEXT.replace("prices", "prices x"), "cutting", "~" * 99):
            for values in (VALUES, [], [3]):
                self.assertIsNone(audit_plan(values, HEADER, text))

    def test_each_changed_character_makes_no_error(self):
        for at in range(len(TEXT)):
            for character in " 0159,-x\n":
                text = TEXT[:at] + character + TEXT[at + 1:]
                answer = audit_plan(VALUES, HEADER, text)
                if answer is not None:
                    self.assertEqual(answer, 15)

    def test_values_stay_as_they_were(self):
        values = list(VALUES)
        audit_plan(values, HEADER, TEXT)
        self.assertEqual(values, VALUES)


if __name__ == "__main__":
    unittest.main()
