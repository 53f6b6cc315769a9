"""Likeness: what chains have in common, and what of a chain can be left out or exchanged."""

from math import lcm

from foldchains.chains import check_chain, is_chain
from foldchains.errors import TooMany
from foldchains.groups import Groups
from foldchains.machines import Machine, moduli_of
from foldchains.pairs import first_unlike
from foldchains.rows import check_row
from foldchains.running import run_on, start
from foldchains.tables import Table, least_modulus


def same(chain, other):
    """Return whether the chains give the same for all rows."""
    check_chain(chain)
    check_chain(other)
    return are_alike(chain, other)


def parting(chain, other):
    """Return the first row for which the chains give unlike numbers, None if there is none."""
    check_chain(chain)
    check_chain(other)
    if are_alike(chain, other):
        return None
    return first_unlike(chain, other, 2 * lcm(least_modulus(chain), least_modulus(other)))


def mix(chain, row):
    """Return the told mix of the rest behind the row."""
    check_chain(chain)
    check_row(row)
    _, state = run_on(chain, start(chain), row)
    return Table(chain).look_at(row, state)


def sizes(chain):
    """Return how many basis rows each group has."""
    check_chain(chain)
    table = Table(chain)
    many = [0] * len(table.groups.counts)
    for _, group in table.basis:
        many[group] += 1
    return tuple(many)


def gives_nothing(chain):
    """Return whether the chain gives no number for any row."""
    check_chain(chain)
    return gives_always(chain, 0)


def gives_as_many(chain):
    """Return whether the chain gives one number for each number, for all rows."""
    check_chain(chain)
    return gives_always(chain, 1)


def needless(chain):
    """Return the numbers of the steps each of which can be left out by itself."""
    check_chain(chain)
    return tuple([at for at in range(len(chain)) if are_alike(without(chain, at), chain)])


def thinned(chain):
    """Return the chain without the steps that can be left out, one after the other."""
    check_chain(chain)
    kept = chain
    at = 0
    while at < len(kept):
        if are_alike(without(kept, at), kept):
            kept = without(kept, at)
        else:
            at += 1
    return kept


def exchangeable(chain):
    """Return the numbers of the steps that can be exchanged with the next one."""
    check_chain(chain)
    return tuple([at for at in range(len(chain) - 1) if are_alike(exchanged(chain, at), chain)])


def joined(chain, other):
    """Return the chain of the steps of the one and then of the other."""
    check_chain(chain)
    check_chain(other)
    steps = chain + other
    if not is_chain(steps):
        raise TooMany("these are too many steps for one chain")
    return steps


def are_alike(chain, other):
    """Return whether two values that are chains give the same for all rows."""
    if chain == other:
        return True
    # Any integer by which both go on evenly will do; to find the least one would take longer.
    modulus = lcm(moduli_of(chain)[1], moduli_of(other)[1])
    return first_unlike(chain, other, 2 * modulus) is None


def gives_always(chain, many):
    """Return whether the chain gives so many numbers for each number, for all rows."""
    for line in Groups(Machine(chain)).counts:
        for given, _ in line:
            if given != many:
                return False
    return True


def without(chain, at):
    """Return the chain without one of its steps."""
    return chain[:at] + chain[at + 1:]


def exchanged(chain, at):
    """Return the chain with one of its steps behind the next one."""
    return chain[:at] + (chain[at + 1], chain[at]) + chain[at + 2:]
