"""Points 17.2 and 17.3: check numbers, recovered entries, and durable stores under crashes."""

import unittest

from fewestlines.journal import Durable, check_number, recovered
from fewestlines.saved import read_store, write_store
from fewestlines.store import Store
from edits import edit, edits_of, edits_of_large_numbers, pairs_after, state, store_after
from samples import BIG


def check_by_powers(text):
    """The check number as one sum of powers of 131."""
    total = 7 * 131 ** len(text)
    for at, character in enumerate(text):
        total += ord(character) * 131 ** (len(text) - 1 - at)
    return total % 1000003


def line_of(key, value):
    """The line of an entry."""
    return f"gone {key}" if value is None else f"put {key} {value}"


def record_of(serial, entry):
    """The record of an entry, with its newline."""
    body = f"{serial} {line_of(*entry)}"
    return f"{check_by_powers(body)} {body}\n"


def with_check(body):
    """A record of any text, with the right check number."""
    return f"{check_by_powers(body)} {body}\n"


def records_of(entries):
    """The records of entries, from the serial number 0 on."""
    return "".join(record_of(serial, entry) for serial, entry in enumerate(entries))


ENTRIES = [(5, 50), (-3, None), (0, 0), (5, -7), (12, 1)]
TEXT = records_of(ENTRIES)


class CheckNumbers(unittest.TestCase):
    def test_the_empty_text(self):
        self.assertEqual(check_number(""), 7)

    def test_one_character_after_another(self):
        self.assertEqual(check_number("0"), 7 * 131 + 48)
        self.assertEqual(check_number("01"), (7 * 131 + 48) * 131 + 49)
        self.assertEqual(check_number("~\n\t"), (((7 * 131 + 126) * 131 + 10) * 131 + 9) % 1000003)
        check = 7
        text = "".join(chr(code) for code in range(32, 127)) * 3
        for at, character in enumerate(text, 1):
            check = (check * 131 + ord(character)) % 1000003
            self.assertEqual(check_number(text[:at]), check)
            self.assertEqual(check_by_powers(text[:at]), check)

    def test_records(self):
        self.assertEqual(check_number("0 put 5 50"), check_by_powers("0 put 5 50"))
        self.assertEqual(record_of(0, (5, 50)), f"{check_number('0 put 5 50')} 0 put 5 50\n")


class Recovering(unittest.TestCase):
    def test_whole_right_records(self):
        self.assertEqual(recovered(""), [])
        for count in range(6):
            self.assertEqual(recovered(records_of(ENTRIES[:count])), ENTRIES[:count])
        large = [(-BIG, BIG), (BIG, None), (10 ** 60 - 1, 1 - 10 ** 60)]
        self.assertEqual(recovered(records_of(large)), large)

    def test_a_text_that_is_cut_off_anywhere(self):
        ends = [at for at, character in enumerate(TEXT, 1) if character == "\n"]
        for kept in range(len(TEXT) + 1):
            whole = len([end for end in ends if end <= kept])
            self.assertEqual(recovered(TEXT[:kept]), ENTRIES[:whole])

    def test_a_record_without_its_newline(self):
        self.assertEqual(recovered(TEXT[:-1]), ENTRIES[:4])
        self.assertEqual(recovered(record_of(0, (5, 50))[:-1]), [])
        self.assertEqual(recovered(TEXT[:-1] + " "), ENTRIES[:4])

    def test_any_other_character(self):
        lines = [line + "\n" for line in TEXT.split("\n")[:-1]]
        before = 0
        for number, line in enumerate(lines):
            for at in range(len(line)):
                for character in " 0179-x\n\t":
                    if character != line[at]:
                        place = before + at
                        text = TEXT[:place] + character + TEXT[place + 1:]
                        self.assertEqual(recovered(text), ENTRIES[:number], text)
            before += len(line)

    def test_wrong_check_numbers(self):
        body = "2 put 0 0"
        check = check_by_powers(body)
        for wrong in (check + 1, check - 1, 0, -check, f"0{check}", f"+{check}", f"-{check}", check + 1000003, "",
                      f" {check}", f"{check} ", f"{check}\t", "x"):
            text = records_of(ENTRIES[:2]) + f"{wrong} {body}\n" + record_of(3, ENTRIES[3])
            self.assertEqual(recovered(text), ENTRIES[:2], text)

    def test_wrong_serial_numbers(self):
        for wrong in (0, 1, 3, 20, -2, "02", "+2", "2.", "", "x", " 2", "2 "):
            text = records_of(ENTRIES[:2]) + with_check(f"{wrong} put 0 0") + record_of(3, ENTRIES[3])
            self.assertEqual(recovered(text), ENTRIES[:2], text)
        self.assertEqual(recovered(record_of(1, (5, 50))), [])
        self.assertEqual(recovered(record_of(0, (5, 50)) * 2), [(5, 50)])
        self.assertEqual(recovered(record_of(0, (5, 50)) + record_of(2, (6, 60))), [(5, 50)])

    def test_more_than_ten_records(self):
        entries = edits_of(173, 1200, 50)
        self.assertEqual(recovered(records_of(entries)), entries)

    def test_wrong_entries(self):
        for wrong in ("put 00 0", "put 0 00", "put 05 1", "put -0 0", "put 0 -0", "put +1 0", "put 1", "put 1 2 3",
                      "put  1 2", "put 1  2", "put 1 2 ", " put 1 2", "put 1 2\t", "gone", "gone 1 2", "gone 01",
                      "gone -0", "gone 1 ", "Put 1 2", "remove 1", "get 1", "put 1 none", "", "put x 1", "5 5",
                      "put 1.0 2", "put 1_0 2", f"put {'1' * 61} 0", f"put 0 -{'1' * 61}", f"gone {'1' * 61}"):
            for first in (0, 2):
                text = records_of(ENTRIES[:first]) + with_check(f"{first} {wrong}") + record_of(first + 1, (1, 1))
                self.assertEqual(recovered(text), ENTRIES[:first], text)

    def test_other_texts(self):
        for text in ("\n", "\n" + TEXT, " " + TEXT, "\t", "x\n", " \n", "  \n", "7 \n", "7\n", TEXT.replace("\n", " "),
                     TEXT.replace("\n", "\n\n")[1:]):
            self.assertEqual(recovered(text), [])
        self.assertEqual(recovered(TEXT + "\n" + record_of(5, (1, 1))), ENTRIES)
        self.assertEqual(recovered(TEXT + "further"), ENTRIES)
        self.assertEqual(recovered(TEXT.replace("\n", "\n\n")), ENTRIES[:1])

    def test_lists_are_new(self):
        recovered(TEXT).clear()
        self.assertEqual(recovered(TEXT), ENTRIES)


def durable_after(capacity, error, entries):
    """A durable store after the edits."""
    durable = Durable(capacity, error)
    for key, value in entries:
        edit(durable, key, value)
    return durable


class Durables(unittest.TestCase):
    def check(self, durable, base, entries, synced):
        """Compare with a base, and the entries that were written since."""
        store = read_store(base)
        for key, value in entries:
            edit(store, key, value)
        self.assertEqual(durable.base, base)
        self.assertEqual(durable.journal, records_of(entries))
        self.assertEqual(durable.synced, synced)
        self.assertIsInstance(durable.store, Store)
        self.assertEqual(write_store(durable.store), write_store(store))

    def test_a_new_one(self):
        durable = Durable(4, 2)
        self.check(durable, "store 4 2 0 0\nbuffer 0", [], 0)
        self.assertEqual(state(durable.store), state(Store(4, 2)))

    def test_edits_have_their_records(self):
        durable = Durable(2, 0)
        base = durable.base
        for made, (key, value) in enumerate(ENTRIES, 1):
            self.assertIsNone(edit(durable, key, value))
            self.check(durable, base, ENTRIES[:made], 0)
        self.assertIsNone(durable.put(3, 4))
        self.assertIsNone(durable.remove(3))
        self.check(durable, base, ENTRIES + [(3, 4), (3, None)], 0)

    def test_the_record_is_written_before_the_edit_is_made(self):
        seen = []

        class Watched(Store):
            def write(self, key, value):
                seen.append(durable.journal)
                Store.write(self, key, value)

        durable = Durable(3, 0)
        durable.store = Watched(3, 0)
        for key, value in ENTRIES:
            edit(durable, key, value)
        self.assertEqual(seen, [records_of(ENTRIES[:made]) for made in range(1, 6)])
        self.assertEqual(durable.store.contents(), pairs_after(ENTRIES))

    def test_syncing(self):
        durable = durable_after(2, 0, ENTRIES[:3])
        base = durable.base
        self.assertIsNone(durable.sync())
        safe = len(records_of(ENTRIES[:3]))
        self.check(durable, base, ENTRIES[:3], safe)
        durable.put(5, -7)
        self.check(durable, base, ENTRIES[:4], safe)
        durable.sync()
        durable.sync()
        self.check(durable, base, ENTRIES[:4], len(records_of(ENTRIES[:4])))

    def test_checkpoints(self):
        durable = durable_after(2, 0, ENTRIES)
        durable.sync()
        wanted = write_store(store_after(2, 0, ENTRIES))
        self.assertNotEqual(durable.base, wanted)
        self.assertIsNone(durable.checkpoint())
        self.check(durable, wanted, [], 0)
        durable.put(1, 2)
        durable.remove(5)
        self.check(durable, wanted, [(1, 2), (5, None)], 0)
        durable.checkpoint()
        self.check(durable, write_store(store_after(2, 0, ENTRIES + [(1, 2), (5, None)])), [], 0)

    def test_crashes_at_each_character(self):
        for first, safe in ((0, 0), (0, 2), (2, 0), (2, 1), (3, 2), (1, 4), (5, 0)):
            whole = records_of(ENTRIES[first:])
            synced = len(records_of(ENTRIES[first:first + safe])) if safe else 0
            base = write_store(store_after(2, 1, ENTRIES[:first]))
            for kept in list(range(len(whole) + 2)) + [10 ** 20]:
                durable = durable_after(2, 1, ENTRIES[:first])
                if first:
                    durable.checkpoint()
                for made, (key, value) in enumerate(ENTRIES[first:], 1):
                    edit(durable, key, value)
                    if made == safe:
                        durable.sync()
                self.assertEqual((durable.journal, durable.synced), (whole, synced))
                self.assertIsNone(durable.crash(kept))
                entries = recovered(whole[:max(kept, synced)])
                self.assertGreaterEqual(len(entries), safe)
                self.check(durable, base, entries, len(records_of(entries)))
                self.assertEqual(durable.store.contents(), pairs_after(ENTRIES[:first + len(entries)]))

    def test_a_crash_of_a_new_one(self):
        durable = Durable(3, 1)
        for kept in (0, 5):
            durable.crash(kept)
            self.check(durable, "store 3 1 0 0\nbuffer 0", [], 0)

    def test_the_store_after_a_crash_is_a_new_one(self):
        durable = durable_after(2, 0, ENTRIES)
        before = durable.store
        durable.crash(0)
        self.assertIsNot(durable.store, before)
        self.assertEqual(before.contents(), pairs_after(ENTRIES))
        self.assertEqual((durable.store.contents(), durable.store.edits), ([], 0))

    def test_what_was_recovered_is_safe(self):
        durable = durable_after(2, 0, ENTRIES)
        durable.crash(len(records_of(ENTRIES[:3])) + 4)
        durable.put(8, 80)
        durable.remove(0)
        further = ENTRIES[:3] + [(8, 80), (0, None)]
        base = "store 2 0 0 0\nbuffer 0"
        self.check(durable, base, further, len(records_of(ENTRIES[:3])))
        durable.crash(0)
        self.check(durable, base, ENTRIES[:3], len(records_of(ENTRIES[:3])))
        durable.put(8, 80)
        durable.remove(0)
        durable.crash(len(records_of(further[:4])))
        self.check(durable, base, further[:4], len(records_of(further[:4])))

    def test_a_checkpoint_after_a_crash(self):
        durable = durable_after(2, 0, ENTRIES)
        durable.crash(len(records_of(ENTRIES[:2])))
        durable.checkpoint()
        durable.put(1, 1)
        durable.crash(0)
        self.check(durable, write_store(store_after(2, 0, ENTRIES[:2])), [], 0)
        durable.put(1, 1)
        self.check(durable, durable.base, [(1, 1)], 0)

    def test_beside_a_plain_dictionary(self):
        # After a crash the contents are those of some first edits, at least of all that were safe.
        for capacity, entries in ((1, edits_of(174, 300, 9, 4)), (3, edits_of_large_numbers(175, 300)),
                                  (20, edits_of(176, 300, 40, 2))):
            durable = Durable(capacity, 1)
            made, safe = [], 0
            for step, entry in enumerate(entries):
                edit(durable, *entry)
                made.append(entry)
                if step % 7 == 3:
                    durable.sync()
                    safe = len(made)
                if step % 45 == 20:
                    durable.checkpoint()
                    safe = len(made)
                if step % 10 == 9:
                    durable.crash(step * 37 % (len(durable.journal) + 30))
                    self.assertLessEqual(safe, durable.store.edits)
                    self.assertLessEqual(durable.store.edits, len(made))
                    made = made[:durable.store.edits]
                    safe = len(made)
                    self.assertEqual(durable.store.contents(), pairs_after(made))
                    self.assertEqual(state(durable.store), state(store_after(capacity, 1, made)))
                self.assertEqual(durable.store.get(entry[0]), dict(pairs_after(made)).get(entry[0]))

    def test_two_thousand_edits(self):
        entries = edits_of(177, 2000, BIG, 2)
        durable = durable_after(50, 2, entries)
        self.assertEqual(durable.journal, records_of(entries))
        durable.crash(len(durable.journal) // 2)
        half = durable.store.edits
        self.assertGreater(half, 900)
        self.check(durable, "store 50 2 0 0\nbuffer 0", entries[:half], len(records_of(entries[:half])))


if __name__ == "__main__":
    unittest.main()
