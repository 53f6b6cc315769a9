"""Which values are numbers and rows within the limits."""

from foldchains.chains import is_whole
from foldchains.errors import InvalidRow

MOST_NUMBERS = 60
GREATEST = 10 ** 30


def is_number(value):
    """Return whether the value is an integer within the limits of a row's numbers."""
    return is_whole(value) and -GREATEST <= value and value <= GREATEST


def check_row(value):
    """Raise InvalidRow if the value is not a row within the limits."""
    if not isinstance(value, tuple) or len(value) > MOST_NUMBERS:
        raise InvalidRow("a row is a tuple of at most 60 numbers")
    if not all([is_number(number) for number in value]):
        raise InvalidRow("a row's numbers are integers from -10 ** 30 to 10 ** 30")
