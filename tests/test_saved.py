"""Point 17.1: written stores and their reading."""

import unittest

from fewestlines.saved import read_store, write_store
from fewestlines.store import Store
from edits import edit, edits_of, edits_of_large_numbers, state, store_after
from papers import WrongTexts
from samples import BIG, with_item

# A buffer, a run at the level 0, none at 1, one at 2, entries of removed keys above it and in the buffer.
EDITS = [(key, 10 * key) for key in range(-4, 4)] + [(-2, None), (9, 0), (0, None)]
TEXT = "\n".join([
    "store 2 1 11 18",
    "buffer 1",
    "gone 0",
    "run 0 2",
    "gone -2",
    "put 9 0",
    "run 2 8",
    "put -4 -40",
    "put -3 -30",
    "put -2 -20",
    "put -1 -10",
    "put 0 0",
    "put 1 10",
    "put 2 20",
    "put 3 30",
])


def lines_of(text):
    return text.split("\n")


class Writing(unittest.TestCase):
    def test_an_empty_store(self):
        self.assertEqual(write_store(Store(5, 3)), "store 5 3 0 0\nbuffer 0")
        self.assertEqual(write_store(Store(1, 0)), "store 1 0 0 0\nbuffer 0")

    def test_a_buffer_alone(self):
        store = store_after(5, 3, [(7, 1), (-2, -9), (7, 8), (4, None)])
        self.assertEqual(write_store(store), "store 5 3 4 0\nbuffer 3\nput -2 -9\ngone 4\nput 7 8")

    def test_runs_with_no_run_between(self):
        self.assertEqual(write_store(store_after(2, 1, EDITS)), TEXT)

    def test_a_run_without_a_buffer(self):
        store = store_after(2, 0, [(5, 50), (3, 30)])
        self.assertEqual(write_store(store), "store 2 0 2 2\nbuffer 0\nrun 0 2\nput 3 30\nput 5 50")

    def test_removed_keys_of_the_lowest_run_are_left_out(self):
        store = store_after(1, 0, [(1, 1), (1, None), (2, None)])
        self.assertEqual(write_store(store), "store 1 0 3 4\nbuffer 0")

    def test_large_numbers(self):
        store = store_after(2, BIG, [(-BIG, BIG)])
        self.assertEqual(write_store(store), f"store 2 {BIG} 1 0\nbuffer 1\nput -{BIG} {BIG}")

    def test_the_store_stays_as_it_was(self):
        store = store_after(2, 1, EDITS)
        before = state(store)
        self.assertEqual(write_store(store), write_store(store))
        self.assertEqual(state(store), before)


class Reading(unittest.TestCase):
    def follow(self, first, second, further):
        """Make the same edits in both stores and compare all that can be asked of them."""
        self.assertEqual(state(second), state(first))
        for key, value in further:
            edit(first, key, value)
            edit(second, key, value)
            self.assertEqual(second.get(key), value)
            self.assertEqual((second.moves, second.edits, second.run_sizes(), second.buffered()),
                             (first.moves, first.edits, first.run_sizes(), first.buffered()))
        self.assertEqual(state(second), state(first))
        self.assertEqual(write_store(second), write_store(first))

    def test_what_was_written_goes_on_like_the_first_store(self):
        for capacity in (1, 2, 3, 7, 40):
            for many in (0, 1, 2, 5, 13, 31, 64, 200):
                for keys, removals in ((5, 5), (60, 2), (10 ** 6, 0)):
                    edits = edits_of(many * keys, many + 60, keys, removals)
                    first = store_after(capacity, many % 3, edits[:many])
                    text = write_store(first)
                    second = read_store(text)
                    self.assertEqual(write_store(second), text)
                    for key in range(-7, 8):
                        self.assertEqual(second.get(key), first.get(key))
                        self.assertEqual(second.between(key, 2 * key), first.between(key, 2 * key))
                    self.follow(first, second, edits[many:])

    def test_large_numbers(self):
        edits = edits_of_large_numbers(171, 400)
        first = store_after(6, BIG, edits[:230])
        self.follow(first, read_store(write_store(first)), edits[230:])

    def test_two_thousand_edits(self):
        edits = edits_of(172, 2500, BIG, 1)
        for capacity in (1, 30, 1000):
            first = store_after(capacity, 2, edits[:2000])
            self.follow(first, read_store(write_store(first)), edits[2000:])

    def test_kinds_of_what_is_read(self):
        store = read_store(TEXT)
        self.assertIsInstance(store, Store)
        self.assertEqual((store.capacity, store.error, store.edits, store.moves), (2, 1, 11, 18))
        self.assertEqual((store.buffered(), store.run_sizes()), (1, [2, 0, 8]))
        self.assertEqual(store.contents(), [(-4, -40), (-3, -30), (-1, -10), (1, 10), (2, 20), (3, 30), (9, 0)])

    def test_only_the_form_is_read(self):
        for text in ["store 3 0 0 0\nbuffer 2\ngone -1\ngone 0", "store 1 0 0 99\nbuffer 0\nrun 3 1\ngone 5",
                     "store 2 7 0 0\nbuffer 1\nput 5 1\nrun 0 1\ngone 5\nrun 60 2\ngone 4\nput 5 0",
                     f"store {'9' * 60} {'8' * 60} {'7' * 60} {'6' * 60}\nbuffer 1\nput -{'5' * 60} -{'4' * 60}",
                     "store 1 0 0 0\nbuffer 0\nrun 1 2\nput 0 0\nput 1 0"]:
            self.assertEqual(write_store(read_store(text)), text)
        store = read_store("store 1 0 0 99\nbuffer 0\nrun 3 1\ngone 5")
        self.assertEqual((store.get(5), store.contents(), store.run_sizes()), (None, [], [0, 0, 0, 1]))
        store.put(1, 1)
        self.assertEqual((store.run_sizes(), store.moves, store.edits), ([1, 0, 0, 1], 100, 1))

    def test_a_full_row_of_levels(self):
        text = "\n".join(["store 1 0 9 9", "buffer 0"] + [f"run {level} 1\nput {level} 0" for level in range(61)])
        store = read_store(text)
        store.put(-1, 5)
        self.assertEqual(store.run_sizes(), [0] * 61 + [62])
        self.assertEqual(store.moves, 9 + 62)


class WrongStores(WrongTexts, unittest.TestCase):
    RIGHT = TEXT
    read = staticmethod(read_store)

    def test_words_too_few_too_many_and_others(self):
        for number, right in enumerate(lines_of(TEXT), start=1):
            words = right.split(" ")
            self.check_line(number, " ".join(words[:-1]))
            self.check_line(number, right + " 1")
            for first in ("", "x", "Put", "puts", "cutting", words[0].upper(), words[0] + "s", words[0][:-1]):
                self.check_line(number, " ".join([first] + words[1:]))
            self.check_line(number, " ".join(words[1:]))
        for number in (3, 5, 6, 8, 15):
            for wrong in ("put 5", "put", "gone", "gone 5 5", "put 5 5 5", "run 1 1", "buffer 0", "store 1 1 1 1"):
                self.check_line(number, wrong)
        for number in (4, 7):
            for wrong in ("run 0", "run", "run 0 1 1", "put 1 1", "gone 1", "buffer 1"):
                self.check_line(number, wrong)

    def test_blanks_tabs_and_empty_lines(self):
        for number, right in enumerate(lines_of(TEXT), start=1):
            for wrong in ("", " ", " " + right, right + " ", right + "\t", "\t" + right,
                          right.replace(" ", "  ", 1), right.replace(" ", "\t", 1),
                          right[::-1].replace(" ", "  ", 1)[::-1]):
                self.check_line(number, wrong)

    def test_newlines_at_the_end(self):
        self.check(TEXT + "\n", 16)
        self.check(TEXT + "\n\n", 16)
        self.check("store 2 0 0 0\nbuffer 0\n", 3)
        self.check("", 1)
        self.check("\n", 1)
        self.check("\n" + TEXT, 1)

    def test_numbers_of_a_wrong_form(self):
        for word in ("00", "01", "007", "-0", "-00", "-01", "+1", "+0", "--1", "-", "", "x", "1x", "1.0", "1e3", "1_0",
                     "0x1", "1,", "1:2", "~", "1" * 61, "-" + "1" * 61, "1" + "0" * 5000):
            for number, right in enumerate(lines_of(TEXT), start=1):
                words = right.split(" ")
                for at in range(1, len(words)):
                    self.check_line(number, " ".join(with_item(words, at, word)))

    def test_minus_only_in_entries(self):
        for number in (1, 2, 4, 7):
            words = lines_of(TEXT)[number - 1].split(" ")
            for at in range(1, len(words)):
                self.check_line(number, " ".join(with_item(words, at, "-1")))
        read = read_store("store 2 0 0 0\nbuffer 1\nput -1 -12")
        self.assertEqual(read.contents(), [(-1, -12)])

    def test_sixty_digits(self):
        read = read_store(TEXT.replace("put 3 30", f"put {'3' * 60} -{'9' * 60}"))
        self.assertEqual(read.get(int("3" * 60)), 1 - 10 ** 60)
        self.check(TEXT.replace("put 3 30", f"put {'3' * 61} 0"), 15)

    def test_the_capacity(self):
        self.check("store 0 0 0 0\nbuffer 0", 1)
        self.check("store 0 0 0 0\nx", 1)
        self.assertEqual(read_store("store 1 0 0 0\nbuffer 0").capacity, 1)

    def test_the_number_of_the_buffer(self):
        for count in (2, 3, 10 ** 59):
            self.check(f"store 2 0 0 0\nbuffer {count}\nput 1 1\nput 2 2", 2)
        self.check("store 1 0 0 0\nbuffer 1\nput 1 1", 2)
        self.assertEqual(read_store("store 3 0 0 0\nbuffer 2\nput 1 1\nput 2 2").buffered(), 2)

    def test_the_number_of_a_run(self):
        head = "store 2 0 0 0\nbuffer 0\n"
        for level, most in ((0, 2), (1, 4), (3, 16)):
            entries = "\n".join(f"put {key} 0" for key in range(most))
            self.assertEqual(len(read_store(f"{head}run {level} {most}\n{entries}").contents()), most)
            self.check(f"{head}run {level} {most + 1}\n{entries}\nput 99 0", 3)
            self.check(f"{head}run {level} 0", 3)
            self.check(f"{head}run {level} 0\n{entries}", 3)
        self.check(f"{head}run 60 {2 * 2 ** 60 + 1}\nput 1 1", 3)
        self.check(f"{head}run 60 {2 * 2 ** 60}\nput 1 1", 5)

    def test_the_levels(self):
        head = "store 2 0 0 0\nbuffer 0\nrun 3 1\nput 0 0\n"
        for level in (0, 1, 2, 3, 61, 62, 10 ** 59):
            self.check(f"{head}run {level} 1\nput 0 0", 5)
        self.check(f"{head}run 4 1\nput 0 0\nrun 4 1\nput 0 0", 7)
        self.check("store 2 0 0 0\nbuffer 0\nrun 61 1\nput 0 0", 3)
        for level in (4, 5, 59, 60):
            self.assertEqual(len(read_store(f"{head}run {level} 1\nput 0 0").run_sizes()), level + 1)

    def test_keys_ascend_strictly_in_each_list(self):
        for wrong in ("put -3 0", "gone -3", "put -4 0", "gone -5", "put -99 0"):
            self.check_line(10, wrong)
        self.check("store 9 0 0 0\nbuffer 2\nput 5 0\ngone 5", 4)
        self.check("store 9 0 0 0\nbuffer 3\nput 5 0\nput 4 0\nput 3 0", 4)
        # A key may stand again in another list, and a list may begin below the one before.
        self.assertEqual(read_store(TEXT.replace("gone 0", "put 9 5")).get(9), 5)

    def test_too_few_and_too_many_entries(self):
        lines = lines_of(TEXT)
        self.check("\n".join(lines[:2] + lines[3:]), 3)
        self.check("\n".join(lines[:3] + ["put 7 7"] + lines[3:]), 4)
        self.check("\n".join(lines[:5] + lines[6:]), 6)
        self.check("\n".join(lines[:6] + ["put 10 7"] + lines[6:]), 7)
        self.check("\n".join(lines + ["put 10 7"]), 16)
        self.check("\n".join(lines + ["gone 10"]), 16)
        self.check("\n".join(lines + ["buffer 0"]), 16)
        self.check("\n".join(lines + ["run 2 1", "put 0 0"]), 16)

    def test_texts_that_end_too_early(self):
        lines = lines_of(TEXT)
        whole = {3: "store 2 1 11 18\nbuffer 1\ngone 0", 6: "\n".join(lines[:6]), 15: TEXT}
        for count in range(1, 16):
            if count in whole:
                self.assertEqual(write_store(read_store(whole[count])), whole[count])
            else:
                self.check("\n".join(lines[:count]), count + 1)

    def test_the_first_wrong_line_counts(self):
        self.check("store 2 0 0 0\nbuffer 5\nx\ny", 2)
        self.check("store 2 0 0 0\nbuffer 1\nput 1\nrun 0 0", 3)
        self.check("store 0 0 0 0\nbuffer 7", 1)
        self.check("\n".join(with_item(with_item(lines_of(TEXT), 4, "put"), 11, "")), 5)


if __name__ == "__main__":
    unittest.main()
