"""Which values are integers, steps and chains."""

from foldchains.errors import InvalidChain

MOST_STEPS = 4

# The numbers of each kind of step, by the letters that the document gives them.
LETTERS = {
    "line": ("a", "b"),
    "turn": ("m", "r", "a", "b"),
    "keep": ("m", "r"),
    "every": ("k", "r"),
    "twice": (),
    "sums": (),
    "anew": ("m", "r"),
    "gaps": (),
    "groups": ("k",),
    "count": (),
}

# The bounds of "r" are not here, because they depend on the number ahead of it.
BOUNDS = {"a": (-3, 3), "b": (-9, 9), "m": (2, 3), "k": (2, 3)}

# How many steps of a chain may at most be of one of some kinds.
LIMITS = (
    (2, ("sums", "anew", "gaps", "groups", "count")),
    (2, ("turn", "keep", "anew")),
    (1, ("twice",)),
)


def is_chain(value):
    """Return whether the value is a chain."""
    if not isinstance(value, tuple) or len(value) > MOST_STEPS:
        return False
    return all([is_step(step) for step in value]) and keeps_limits(value)


def check_chain(value):
    """Raise InvalidChain if the value is not a chain."""
    if not is_chain(value):
        raise InvalidChain("this is not a chain")


def is_whole(value):
    """Return whether the value is an integer as the document means it."""
    # True and False are of Python's int, too, but no integers here.
    return isinstance(value, int) and not isinstance(value, bool)


def is_step(value):
    """Return whether the value is a step."""
    if not isinstance(value, tuple) or len(value) == 0:
        return False
    name = value[0]
    # What is no string might not even be looked up in a dict.
    if not isinstance(name, str) or name not in LETTERS:
        return False
    return are_within(LETTERS[name], value[1:])


def are_within(letters, numbers):
    """Return whether the numbers are integers within the bounds of these letters."""
    if len(letters) != len(numbers):
        return False
    ahead = 0
    for letter, number in zip(letters, numbers):
        if not is_whole(number):
            return False
        low, high = (0, ahead - 1) if letter == "r" else BOUNDS[letter]
        if number < low or number > high:
            return False
        ahead = number
    return True


def keeps_limits(steps):
    """Return whether there are not too many of these steps of any of the limited kinds."""
    for most, names in LIMITS:
        if len([step for step in steps if step[0] in names]) > most:
            return False
    return True
