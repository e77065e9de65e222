"""The errors that the program raises."""


class LinesError(ValueError):
    """The base class of all errors that the program raises."""


class InvalidPaper(LinesError):
    """A text cannot be read: line is the number, from 1, of the first line that is wrong."""

    def __init__(self, line):
        super().__init__(f"line {line} cannot stand there")
        self.line = line
