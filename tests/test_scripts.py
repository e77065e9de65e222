"""Point 17.4: scripts of commands for a store."""

import unittest
from unittest import mock

from fewestlines.scripts import run_script
from fewestlines.store import Store
from edits import edits_of, edits_of_large_numbers, pairs_after, store_after
from papers import WrongTexts
from samples import BIG, with_item

TEXT = "\n".join(["store 2 1", "put 5 50", "put -3 -30", "get 5", "remove 5", "get 5", "between -9 9", "count", "sizes",
                  "all"])


def pairs_text(pairs):
    return " ".join(f"{key}:{value}" for key, value in pairs)


class Answers(unittest.TestCase):
    def test_each_command(self):
        self.assertEqual(run_script(TEXT), ["50", "none", "-3:-30", "1", "1 2", "-3:-30"])

    def test_the_line_store_alone(self):
        self.assertEqual(run_script("store 1 0"), [])
        self.assertEqual(run_script("store 1000 1000000000000000000"), [])

    def test_edits_have_no_answers(self):
        self.assertEqual(run_script("store 1 0\nput 1 1\nremove 1\nremove 7\nput 1 2"), [])

    def test_get(self):
        self.assertEqual(run_script("store 3 0\nget 0\nput 0 0\nget 0\nput 0 -8\nget 0\nget 1\nremove 0\nget 0"),
                         ["none", "0", "-8", "none", "none"])

    def test_no_pairs(self):
        self.assertEqual(run_script("store 2 0\nall\nbetween -5 5\nbetween 5 -5\ncount"), ["", "", "", "0"])
        self.assertEqual(run_script("store 1 0\nput 1 1\nremove 1\nall\nbetween 1 1\ncount"), ["", "", "0"])
        self.assertEqual(run_script("store 9 0\nput 1 1\nbetween 2 0\nbetween 2 9\nbetween -9 0"), ["", "", ""])

    def test_pairs(self):
        edits = "\n".join(f"put {key} {-2 * key}" for key in (4, -1, 0, 7))
        self.assertEqual(run_script(f"store 3 0\n{edits}\nall\nbetween -1 4\nbetween 0 0\nbetween 1 100\ncount"),
                         ["-1:2 0:0 4:-8 7:-14", "-1:2 0:0 4:-8", "0:0", "4:-8 7:-14", "4"])

    def test_sizes(self):
        self.assertEqual(run_script("store 2 0\nsizes"), ["0"])
        self.assertEqual(run_script("store 2 0\nput 1 1\nsizes\nput 1 2\nsizes\nput 2 2\nsizes"), ["1", "1", "0 2"])
        edits = "\n".join(f"put {key} 0\nsizes" for key in range(7))
        self.assertEqual(run_script(f"store 1 0\n{edits}"), ["0 1", "0 0 2", "0 1 2", "0 0 0 4", "0 1 0 4", "0 0 2 4",
                                                             "0 1 2 4"])
        self.assertEqual(run_script("store 1 0\nput 1 1\nremove 1\nsizes"), ["0"])

    def test_beside_a_store_and_a_plain_dictionary(self):
        for capacity, error, edits in ((1, 0, edits_of(180, 200, 9, 4)), (4, 2, edits_of(181, 300, 60, 2)),
                                       (1000, 1, edits_of(182, 300, 500)), (7, 3, edits_of_large_numbers(183, 200))):
            lines, wanted = [f"store {capacity} {error}"], []
            for made, (key, value) in enumerate(edits, 1):
                lines.append(f"remove {key}" if value is None else f"put {key} {value}")
                if made % 9 == 0:
                    pairs = pairs_after(edits[:made])
                    store = store_after(capacity, error, edits[:made])
                    low, high = sorted((edits[made // 2][0], edits[made // 3][0]))
                    lines += ["all", "count", f"get {key}", f"get {low}", f"between {low} {high}", "sizes"]
                    between = [pair for pair in pairs if low <= pair[0] <= high]
                    sizes = [store.buffered()] + store.run_sizes()
                    wanted += [pairs_text(pairs), str(len(pairs)), str(dict(pairs).get(key, "none")),
                               str(dict(pairs).get(low, "none")), pairs_text(between), " ".join(map(str, sizes))]
            self.assertEqual(run_script("\n".join(lines)), wanted)

    def test_two_thousand_lines(self):
        lines = [f"put {k * k} {-k}" for k in range(1000)]
        questions = ["all", "count", f"between 0 {BIG}", "sizes"] * 250
        answers = run_script("\n".join(["store 16 2"] + lines + questions))
        self.assertEqual(len(answers), 1000)
        self.assertEqual(answers[0], " ".join(f"{k * k}:{-k}" for k in range(1000)))
        self.assertEqual(answers[1::4], ["1000"] * 250)

    def test_two_scripts_have_two_stores(self):
        self.assertEqual([run_script("store 2 0\nput 1 1\ncount"), run_script("store 2 0\ncount")], [["1"], ["0"]])


class WrongScripts(WrongTexts, unittest.TestCase):
    RIGHT = TEXT
    read = staticmethod(run_script)

    def test_the_first_line(self):
        for line in ("", "store", "store 2", "store 2 1 1", "Store 2 1", "put 1 1", "count", "store 2 -1", "store -2 1",
                     "store 0 0", "store 0 1", "stores 2 1", " store 2 1"):
            self.check_line(1, line)
            self.check(line, 1)
        self.check("", 1)
        self.check("\nstore 2 1", 1)

    def test_the_capacity(self):
        self.check("store 0 3\nx", 1)
        self.assertEqual(run_script("store 1 3\nput 1 1\nsizes"), ["0 1"])

    def test_words_too_few_too_many_and_others(self):
        for number in range(2, 11):
            for line in ("", "put", "put 1", "put 1 2 3", "remove", "remove 1 2", "get", "get 1 2", "between",
                         "between 1", "between 1 2 3", "count 1", "sizes 0", "all 1", "Put 1 2", "PUT 1 2", "putt 1 2",
                         "gone 1", "store 2 1", "none", "1 2", "get x", "put 1 none", "buffer 0", "items", "len"):
                self.check_line(number, line)

    def test_blanks_tabs_and_empty_lines(self):
        for number, right in enumerate(TEXT.split("\n"), start=1):
            for wrong in (" ", " " + right, right + " ", right + "\t", "\t" + right, right + "  "):
                self.check_line(number, wrong)
            if " " in right:
                self.check_line(number, right.replace(" ", "  ", 1))
                self.check_line(number, right.replace(" ", "\t", 1))
                self.check_line(number, right[::-1].replace(" ", "  ", 1)[::-1])

    def test_newlines_at_the_end(self):
        self.check(TEXT + "\n", 11)
        self.check(TEXT + "\n\n", 11)
        self.check("store 2 1\n", 2)

    def test_numbers_of_a_wrong_form(self):
        for word in ("00", "01", "-0", "-01", "+1", "--1", "-", "x", "1x", "1.0", "1_0", "1,", "1:1", "1" * 61,
                     "-" + "1" * 61, "9" * 5000):
            for number, right in enumerate(TEXT.split("\n"), start=1):
                words = right.split(" ")
                for at in range(1, len(words)):
                    self.check_line(number, " ".join(with_item(words, at, word)))

    def test_sixty_digits(self):
        most = "9" * 60
        self.assertEqual(run_script(f"store {most} {most}\nput -{most} {most}\nget -{most}\nbetween -{most} {most}"),
                         [most, f"-{most}:{most}"])

    def test_the_first_wrong_line_counts(self):
        self.check("store 2 1\nput 1\nget", 2)
        self.check("store 2 1\nput 1 1\nget\nx", 3)
        self.check("stor 2 1\nput 1\nget", 1)

    def test_no_command_is_run_before_all_are_read(self):
        made = []
        with mock.patch.object(Store, "put", lambda store, key, value: made.append((key, value))):
            with mock.patch.object(Store, "contents", lambda store: made.append("asked") or []):
                self.check("store 2 1\nput 1 1\nall\ncount\nput 2 2\nwrong", 6)
                self.assertEqual(made, [])
                run_script("store 2 1\nput 1 1\nall\nput 2 2")
                self.assertEqual(made, [(1, 1), "asked", (2, 2)])


if __name__ == "__main__":
    unittest.main()
