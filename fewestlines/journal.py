"""Journals of edits, and stores that lose nothing that was made safe."""

from fewestlines.papers import entry_in, entry_line
from fewestlines.saved import read_store, write_store
from fewestlines.store import Store

FIRST_CHECK = 7
CHECK_FACTOR = 131
CHECK_DIVISOR = 1000003


def check_number(text):
    """The check number of a text (point 17.2)."""
    check = FIRST_CHECK
    for character in text:
        check = (check * CHECK_FACTOR + ord(character)) % CHECK_DIVISOR
    return check


def checked_line(serial, entry):
    """The record of an entry, without its newline."""
    body = f"{serial} {entry_line(entry)}"
    return f"{check_number(body)} {body}"


def entry_of_record(line, serial):
    """The entry of the record that stands in the line, or None if it is not right or has another serial number."""
    entry = entry_in(line.partition(" ")[2].partition(" ")[2])
    if entry is None or line != checked_line(serial, entry):
        return None
    return entry


def recovered(text):
    """The entries of the first records of a text, as far as these are whole and right."""
    entries = []
    # What stands behind the last newline is no whole record.
    for line in text.split("\n")[:-1]:
        entry = entry_of_record(line, len(entries))
        if entry is None:
            break
        entries.append(entry)
    return entries


class Durable:
    """A store whose edits stand in a journal before they are made (point 17.3)."""

    def __init__(self, capacity, error):
        self.store = Store(capacity, error)
        self.base = write_store(self.store)
        self.journal = ""
        self.synced = 0
        # The serial number of the next record.
        self._serial = 0

    def put(self, key, value):
        """Change the store: write a value for a key."""
        self._write((key, value))

    def remove(self, key):
        """Change the store: write that a key is gone, also if it is not there."""
        self._write((key, None))

    def sync(self):
        """Change what is safe: the whole journal now."""
        self.synced = len(self.journal)

    def checkpoint(self):
        """Change the base to the written form of the store, and begin an empty journal."""
        self.base = write_store(self.store)
        self._begin_journal()

    def crash(self, kept):
        """Change the store: lose the journal behind so many characters, as far as it is not safe, and recover."""
        entries = recovered(self.journal[:max(kept, self.synced)])
        self.store = read_store(self.base)
        self._begin_journal()
        for entry in entries:
            self._write(entry)
        self.sync()

    def _begin_journal(self):
        """Begin an empty journal."""
        self.journal = ""
        self.synced = 0
        self._serial = 0

    def _write(self, entry):
        """Write the entry into the journal, and then into the store."""
        self.journal += checked_line(self._serial, entry) + "\n"
        self._serial += 1
        self.store.write(entry[0], entry[1])
