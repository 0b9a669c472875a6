"""The errors that the package raises."""


class SwornError(ValueError):
    """The base class of all errors of the package."""


class BadLine(SwornError):
    """Something is wrong at a row, counted from 1."""

    def __init__(self, row):
        SwornError.__init__(self, f"row {row} is wrong")
        self.row = row


class BadText(BadLine):
    """A text is no program."""


class BadProgram(BadLine):
    """A program is not good."""


class BadPaper(BadLine):
    """A text is no paper."""


class BadStart(SwornError):
    """A start has not as many numbers and lists as the procedure."""


class NoProcedure(SwornError):
    """A program has no procedure of the name."""
