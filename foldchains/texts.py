"""Chains as texts, and texts as chains."""

from foldchains.chains import check_chain, is_chain
from foldchains.errors import InvalidText

# A table instead of int(): that would read "01" and "+1", too, and fail at thousands of digits.
NUMBERS = {
    "-9": -9, "-8": -8, "-7": -7, "-6": -6, "-5": -5, "-4": -4, "-3": -3, "-2": -2, "-1": -1,
    "0": 0, "1": 1, "2": 2, "3": 3, "4": 4, "5": 5, "6": 6, "7": 7, "8": 8, "9": 9,
}


def format_chain(chain):
    """Return the text of the chain."""
    check_chain(chain)
    return " | ".join([step_text(step) for step in chain])


def parse_chain(text):
    """Return the chain that has this text."""
    if not isinstance(text, str):
        raise InvalidText("a text is a string")
    # The empty text has no steps, but splitting it would give one empty part.
    parts = text.split(" | ") if text != "" else []
    chain = tuple([read_step(part) for part in parts])
    if not is_chain(chain):
        raise InvalidText("this is not the text of a chain")
    return chain


def step_text(step):
    """Return the text of a step."""
    return " ".join([str(part) for part in step])


def read_step(text):
    """Return the parts of the text of a step, with None for each that is no number of a step."""
    name, *words = text.split(" ")
    numbers = [NUMBERS.get(word) for word in words]
    return (name, *numbers)
