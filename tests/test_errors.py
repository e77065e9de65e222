"""The errors of the interface."""

import unittest

from fewestlines.errors import InvalidPaper, LinesError


class Errors(unittest.TestCase):
    def test_lines_error_is_a_value_error(self):
        self.assertTrue(issubclass(LinesError, ValueError))
        with self.assertRaises(ValueError):
            raise LinesError("why")

    def test_invalid_paper_is_a_lines_error_with_its_line(self):
        self.assertTrue(issubclass(InvalidPaper, LinesError))
        self.assertEqual(InvalidPaper(7).line, 7)
        self.assertEqual(InvalidPaper(line=1).line, 1)
        with self.assertRaises(LinesError) as caught:
            raise InvalidPaper(12)
        self.assertEqual(caught.exception.line, 12)
        self.assertIn("12", str(caught.exception))


if __name__ == "__main__":
    unittest.main()
