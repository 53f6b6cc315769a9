"""A chain as a machine of finitely many anchors: states by which all other states are told.

What the steps of a chain do for a number turns on their places and on remainders only. So a state
is told by its control, which is one of finitely many (the places, and the remainders of the
totals), and by a vector, which says how often a modulus is in each total. Within one control, and
for numbers of one remainder, all that a chain gives and all vectors behind it are sums of multiples
of the vector's integers: a state whose vector is a blend of others goes on as this blend of them.
"""

from math import gcd, lcm

from foldchains.running import advance, start
from foldchains.spans import Span


def moduli_of(chain):
    """Return the moduli by which the steps' totals, and the one by which numbers, are looked at."""
    backwards = []
    modulus = 1
    for step in reversed(chain):
        backwards.append(modulus)
        modulus = modulus_ahead(step, modulus)
    return backwards[::-1], modulus


def modulus_ahead(step, modulus):
    """Return by which modulus to look at a step's numbers, to know by another what it gives."""
    if step[0] == "count":
        return 1
    if step[0] == "line":
        return modulus // gcd(step[1], modulus)
    if step[0] in ("turn", "keep", "anew"):
        return lcm(step[1], modulus)
    return modulus


def split_state(moduli, state):
    """Return the control of the state, and its vector, which has 1 at the key 0."""
    control = []
    vector = {0: 1}
    for modulus, (place, total) in zip(moduli, state):
        times, left = divmod(total, modulus)
        control.append((place, left))
        if times != 0:
            vector[len(control)] = times
    return tuple(control), vector


class Machine:
    """The anchors of a chain: states behind rows, of each control as few as tell all others.

    `moves` are for each anchor, and each number from 0 to 2 * modulus - 1: what the chain gives,
    the number of the control behind it, and the state behind it as a blend of anchors.
    """

    def __init__(self, chain):
        self.chain = chain
        self.moduli, self.modulus = moduli_of(chain)
        self.controls = {}
        self.spans = []
        self.anchors = []
        # For each control the anchors that it has, the first of which was the first to reach it.
        self.members = []
        self.moves = []
        self.locate(start(chain))
        while len(self.moves) < len(self.anchors):
            state = self.anchors[len(self.moves)]
            self.moves.append([self.move(state, number) for number in range(2 * self.modulus)])

    def locate(self, state):
        """Return the state's control, by its number, and the blend of anchors that it is.

        A state that is none becomes an anchor; once the machine is made, there are no such states.
        """
        key, vector = split_state(self.moduli, state)
        if key not in self.controls:
            self.controls[key] = len(self.controls)
            self.spans.append(Span())
            self.members.append([])
        control = self.controls[key]
        name = len(self.anchors)
        blend = self.spans[control].place((vector, 1), name)
        if name in blend[0]:
            self.anchors.append(state)
            self.members[control].append(name)
        return control, blend

    def move(self, state, number):
        """Return what is given for the number in this state, and where the state behind it is."""
        given, state_behind = advance(self.chain, state, number)
        control, blend = self.locate(state_behind)
        return given, control, blend
