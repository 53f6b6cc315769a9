"""Feeds: chains that take numbers one by one, and can take them back."""

from foldchains.chains import check_chain
from foldchains.errors import InvalidNumber, NothingToUndo, TooMany
from foldchains.rows import MOST_NUMBERS, is_number
from foldchains.running import advance, start


class Feed:
    """A chain, the numbers that were put into it, and those that were taken back."""

    def __init__(self, chain):
        check_chain(chain)
        self.chain = chain
        self.numbers = []
        # What was given for each of the numbers, and the state behind each.
        self.answers = []
        self.states = []
        # The numbers that can be put in again, the next one last.
        self.undone = []

    def put(self, number):
        """Put in a number, and return what is given for it."""
        if not is_number(number):
            raise InvalidNumber("a number is an integer from -10 ** 30 to 10 ** 30")
        if len(self.numbers) >= MOST_NUMBERS:
            raise TooMany("60 numbers were put in")
        self.undone = []
        return self.take(number)

    def undo(self):
        """Take the last number back, and return what was given for it."""
        if not self.numbers:
            raise NothingToUndo("there is no number to take back")
        self.undone.append(self.numbers.pop())
        self.states.pop()
        return self.answers.pop()

    def redo(self):
        """Put in again the number that was taken back last, and return what is given for it."""
        if not self.undone:
            raise NothingToUndo("there is no number to put in again")
        return self.take(self.undone.pop())

    def row(self):
        """Return the numbers that were put in and not taken back."""
        return tuple(self.numbers)

    def given(self):
        """Return all numbers that the chain gave for them."""
        return tuple([number for answer in self.answers for number in answer])

    def take(self, number):
        """Let the chain take the number, and return what it gives."""
        state = self.states[-1] if self.states else start(self.chain)
        answer, state_behind = advance(self.chain, state, number)
        self.numbers.append(number)
        self.answers.append(answer)
        self.states.append(state_behind)
        return answer

    def __eq__(self, other):
        return isinstance(other, Feed) and self.chain == other.chain and self.numbers == other.numbers

    def __len__(self):
        return len(self.numbers)
