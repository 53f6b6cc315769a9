"""The modulus: the least integer by which a chain goes on evenly."""

from foldchains.spans import blended


def modulus_of(machine, groups, told):
    """Return the modulus of the machine's chain, which goes on evenly by the machine's modulus."""
    moves = [moves_told(machine, told, anchor) for anchor in free_anchors(told)]
    # It goes on evenly by the common divisor of any two by which it does: other integers than the
    # divisors of the machine's modulus need not be tried.
    for modulus in range(1, machine.modulus):
        if machine.modulus % modulus == 0 and is_even(groups, moves, modulus):
            return modulus
    return machine.modulus


def free_anchors(told):
    """Return the anchors whose rests are told by themselves alone; all rests are mixes of theirs."""
    return [anchor for anchor, (parts, _) in enumerate(told) if anchor in parts]


def moves_told(machine, told, anchor):
    """Return for each number what is given for it, and the rest behind it by those of free anchors."""
    return [(given, blended(blend, told)) for given, _, blend in machine.moves[anchor]]


def is_even(groups, moves, modulus):
    """Return whether the chain goes on evenly by this divisor of the machine's modulus."""
    for line in groups.counts:
        if line != line[:modulus] * (len(line) // modulus):
            return False
    return all([goes_evenly(line, modulus) for line in moves])


def goes_evenly(line, modulus):
    """Return whether all that the line tells grows evenly from each number to the next by the modulus."""
    for number in range(len(line) - 2 * modulus):
        low, middle, high = line[number], line[number + modulus], line[number + 2 * modulus]
        for one, two, three in zip(low[0], middle[0], high[0]):
            if one + three != 2 * two:
                return False
        bend, _ = blended(({0: 1, 1: -2, 2: 1}, 1), (low[1], middle[1], high[1]))
        if bend:
            return False
    return True
