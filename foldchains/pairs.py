"""Two chains at work side by side on one row."""

from foldchains.machines import moduli_of, split_state
from foldchains.running import advance, start
from foldchains.spans import Span


def first_unlike(chain, other, many):
    """Return the first row, of numbers from 0 to many - 1, for which the chains give unlike numbers.

    Return None if there is none. The rows are looked at in their sequence. Behind a row whose pair
    of states is a blend of those of rows ahead of it, the chains go on unlike only if they do so
    behind one of those rows, which comes first: so such a row is not followed further.
    """
    pairs = Pairs(chain, other)
    pairs.is_new(start(chain), start(other))
    ways = [((), start(chain), start(other))]
    at = 0
    while at < len(ways):
        row, state, other_state = ways[at]
        for number in range(many):
            given, behind = advance(chain, state, number)
            other_given, other_behind = advance(other, other_state, number)
            if given != other_given:
                return row + (number,)
            if pairs.is_new(behind, other_behind):
                ways.append((row + (number,), behind, other_behind))
        at += 1
    return None


class Pairs:
    """The pairs of states of two chains that were met, of each pair of controls those that tell all."""

    def __init__(self, chain, other):
        self.moduli = moduli_of(chain)[0] + moduli_of(other)[0]
        self.spans = {}
        self.many = 0

    def is_new(self, state, other_state):
        """Take in the pair of states, and return whether it is no blend of those that were met."""
        control, vector = split_state(self.moduli, state + other_state)
        if control not in self.spans:
            self.spans[control] = Span()
        name = self.many
        parts, _ = self.spans[control].place((vector, 1), name)
        if name not in parts:
            return False
        self.many += 1
        return True
