"""Checks of texts that cannot be read, for several tests."""

from fewestlines.errors import InvalidPaper
from samples import with_item


class WrongTexts:
    """Beside unittest.TestCase: read reads a text, RIGHT is a text that can be read."""

    def check(self, text, line):
        """The text cannot be read, and the line is the first wrong one."""
        with self.assertRaises(InvalidPaper) as caught:
            self.read(text)
        self.assertEqual(caught.exception.line, line, text)

    def check_line(self, number, line):
        """Put the line in place of that of the right text, where it is the first one that is wrong."""
        self.check("\n".join(with_item(self.RIGHT.split("\n"), number - 1, line)), number)
