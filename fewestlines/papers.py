"""Lines of texts, read one after another: a word and then words or numbers, separated by one space."""

from fewestlines.errors import InvalidPaper

MOST_DIGITS = 60

# For each number of the line of an entry: whether it may have a minus.
PUT_SIGNS = (True, True)
GONE_SIGNS = (True,)


class Paper:
    """The lines of a text, read one after another; the first wrong one raises InvalidPaper (point 8.2)."""

    def __init__(self, text):
        self._lines = text.split("\n")
        # The number of the line that was read last, from 1 on.
        self.number = 0

    def ended(self):
        """Whether all lines are read."""
        return self.number == len(self._lines)

    def first_word(self):
        """The first word of the line that is read next, or None behind the last one."""
        if self.ended():
            return None
        return self._lines[self.number].partition(" ")[0]

    def next_line(self):
        """Read a line."""
        if self.ended():
            raise InvalidPaper(self.number + 1)
        self.number += 1
        return self._lines[self.number - 1]

    def words(self, word):
        """Read a line that begins with the word: the words behind it."""
        words = self.next_line().split(" ")
        if words[0] != word:
            raise InvalidPaper(self.number)
        return words[1:]

    def numbers(self, word, signs):
        """Read a line of the word and numbers with these signs: the numbers."""
        numbers = numbers_in(self.next_line(), word, signs)
        if numbers is None:
            raise InvalidPaper(self.number)
        return numbers

    def read_entries(self, count):
        """Read the lines of so many entries with strictly ascending keys: the entries."""
        entries = []
        while len(entries) < count:
            entry = entry_in(self.next_line())
            if entry is None or entries and entry[0] <= entries[-1][0]:
                raise InvalidPaper(self.number)
            entries.append(entry)
        return entries

    def finish(self):
        """Make sure that no line is left."""
        if not self.ended():
            raise InvalidPaper(self.number + 1)


def number_of(word, signed):
    """The integer that the word writes, with a minus only if it may be signed, or None."""
    digits = word
    if signed and word.startswith("-"):
        digits = word[1:]
    if not digits.isascii() or not digits.isdigit() or len(digits) > MOST_DIGITS:
        return None
    # No other number than 0 begins with it; this is where -0 ends, too.
    if digits.startswith("0") and word != "0":
        return None
    return int(word)


def numbers_in(line, word, signs):
    """The numbers behind the word in a line of this form, or None.

    There is one sign for each number: whether it may have a minus.
    """
    words = line.split(" ")
    if words[0] != word or len(words) != len(signs) + 1:
        return None
    numbers = [number_of(written, signed) for written, signed in zip(words[1:], signs)]
    if None in numbers:
        return None
    return numbers


def entry_line(entry):
    """The line of an entry of a store (point 17.1)."""
    key, value = entry
    if value is None:
        return f"gone {key}"
    return f"put {key} {value}"


def entry_in(line):
    """The entry that the line writes, or None if it has not the form."""
    pair = numbers_in(line, "put", PUT_SIGNS)
    if pair is not None:
        return tuple(pair)
    gone = numbers_in(line, "gone", GONE_SIGNS)
    if gone is not None:
        return gone[0], None
    return None
