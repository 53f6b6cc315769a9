"""The errors that the package raises."""


class ChainError(ValueError):
    """The error that all errors of the package are."""


class InvalidChain(ChainError):
    """A value is not a chain."""


class InvalidRow(ChainError):
    """A value is not a row within the limits."""


class InvalidNumber(ChainError):
    """A value is not a number within the limits."""


class InvalidText(ChainError):
    """A value is not the text of a chain."""


class TooMany(ChainError):
    """There would be more steps or numbers than are allowed."""


class NothingToUndo(ChainError):
    """No number can be taken back, or put in again."""
