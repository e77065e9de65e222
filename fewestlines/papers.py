"""Lines of texts: a word and then numbers, separated by one space."""

MOST_DIGITS = 60


def number_of(word, signed):
    """The integer that the word writes, with a minus only if it may be signed, or None."""
    digits = word
    if signed and word.startswith("-"):
        digits = word[1:]
    if not digits.isascii() or not digits.isdigit() or len(digits) > MOST_DIGITS:
        return None
    # No other number than 0 begins with it; this is where -0 ends, too.
    if digits.startswith("0") and word != "0":
        return None
    return int(word)


def numbers_in(line, word, signs):
    """The numbers behind the word in a line of this form, or None.

    There is one sign for each number: whether it may have a minus.
    """
    words = line.split(" ")
    if words[0] != word or len(words) != len(signs) + 1:
        return None
    numbers = [number_of(written, signed) for written, signed in zip(words[1:], signs)]
    if None in numbers:
        return None
    return numbers
