"""The forms of chains."""

from math import gcd

from foldchains.chains import check_chain
from foldchains.evenness import modulus_of
from foldchains.groups import Groups
from foldchains.machines import Machine
from foldchains.rests import told_rests
from foldchains.running import advance, start
from foldchains.spans import Span, blended


def form(chain):
    """Return the form of the chain."""
    check_chain(chain)
    table = Table(chain)
    counts = tuple([line[:table.modulus] for line in table.groups.counts])
    return table.modulus, counts, tuple(table.basis), tuple(table.entries)


def least_modulus(chain):
    """Return the modulus of the chain."""
    machine = Machine(chain)
    groups = Groups(machine)
    return modulus_of(machine, groups, told_rests(machine, groups))


class Table:
    """What a form is made of: the modulus, the groups, the basis rows, and the entries of these."""

    def __init__(self, chain):
        self.chain = chain
        self.machine = Machine(chain)
        self.groups = Groups(self.machine)
        self.told = told_rests(self.machine, self.groups)
        self.modulus = modulus_of(self.machine, self.groups, self.told)
        self.spans = [Span() for _ in self.groups.counts]
        self.basis = []
        self.states = []
        self.entries = []
        self.look_at((), start(chain))
        while len(self.entries) < len(self.basis):
            at = len(self.entries)
            row, state = self.basis[at][0], self.states[at]
            self.entries.append(tuple([
                self.entry(row, state, number) for number in range(2 * self.modulus)
            ]))

    def entry(self, row, state, number):
        """Return what is given for the number behind the row, and the told mix behind it."""
        given, state_behind = advance(self.chain, state, number)
        return given, self.look_at(row + (number,), state_behind)

    def look_at(self, row, state):
        """Return the told mix of the rest behind the row; make it a basis row if it is none of others."""
        control, blend = self.machine.locate(state)
        group = self.groups.of_control[control]
        name = len(self.basis)
        mix = self.spans[group].place(blended(blend, self.told), name)
        if name in mix[0]:
            self.basis.append((row, group))
            self.states.append(state)
        return with_fractions(mix)


def with_fractions(blend):
    """Return the pairs of a key and its weight, a fraction, of the blend."""
    parts, scale = blend
    return tuple([(key, fraction(parts[key], scale)) for key in sorted(parts)])


def fraction(top, bottom):
    """Return the fraction of two integers, the second of which is greater than 0."""
    common = gcd(top, bottom)
    return top // common, bottom // common
