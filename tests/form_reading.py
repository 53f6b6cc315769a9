"""Forms read and looked at as point 2.6 says, without the program."""

from fractions import Fraction

import by_hand


def begin(form):
    """The group of the empty row, and the weights of basis rows of the rest behind it."""
    basis = form[2]
    return 0, ({0: Fraction(1)} if basis and basis[0] == ((), 0) else {})


def read_number(form, group, weights, x):
    """What a form tells of a number: what is given, and the group and the weights behind it."""
    modulus, counts, _, entries = form
    k, r = x // modulus, x % modulus
    many, behind = counts[group][r]
    total = [Fraction(0)] * many
    found = {}
    for at, weight in weights.items():
        for times, place in ((1 - k, r), (k, r + modulus)):
            given, mix = entries[at][place]
            for index, number in enumerate(given):
                total[index] += weight * times * number
            for other, (top, bottom) in mix:
                found[other] = found.get(other, 0) + weight * times * Fraction(top, bottom)
    return tuple(total), behind, {at: worth for at, worth in found.items() if worth != 0}


def read(form, row):
    """What a form tells of a row: what is given for each number, and the group and weights behind."""
    group, weights = begin(form)
    out = []
    for x in row:
        given, group, weights = read_number(form, group, weights, x)
        out.append(given)
    return out, group, weights


def as_mix(weights):
    """The weights as a told mix."""
    return tuple((at, (weights[at].numerator, weights[at].denominator)) for at in sorted(weights))


def class_count(counts):
    """How many groups there are of which no two count alike."""
    classes = [0] * len(counts)
    while True:
        keys = [tuple((many, classes[to]) for many, to in line) for line in counts]
        names = {key: at for at, key in enumerate(dict.fromkeys(keys))}
        if len(names) == len(set(classes)):
            return len(names)
        classes = [names[key] for key in keys]


def found_groups(counts):
    """The groups in the sequence in which they are found."""
    found = [0]
    at = 0
    while at < len(found):
        found += [to for to in dict.fromkeys(to for _, to in counts[found[at]]) if to not in found]
        at += 1
    return found


def count_free(form):
    """For each group, of how many of its basis rows no rest is a mix of the others'.

    A test gives each basis row of a group one number of what its rest tells. What is counted is how
    many tests there are for each group of which no one is a sum of multiples of the others.
    """
    modulus, counts, basis, entries = form
    members = [[at for at, (_, group) in enumerate(basis) if group == own]
               for own in range(len(counts))]
    mixes = [by_hand.Mixes() for _ in counts]
    tests = []

    def take(group, numbers):
        if any(numbers) and mixes[group].add([modular(number) for number in numbers]):
            tests.append((group, dict(zip(members[group], numbers))))

    for group, line in enumerate(counts):
        for x in range(2 * modulus):
            for place in range(line[x % modulus][0]):
                take(group, [Fraction(entries[at][x][0][place]) for at in members[group]])
    at = 0
    while at < len(tests):
        behind, numbers = tests[at]
        for group, line in enumerate(counts):
            for x in range(2 * modulus):
                if line[x % modulus][1] == behind and len(mixes[group].lines) < len(members[group]):
                    take(group, [sum(Fraction(*weight) * numbers[other]
                                     for other, weight in entries[own][x][1])
                                 for own in members[group]])
        at += 1
    return [len(mix.lines) for mix in mixes]


def modular(worth):
    """A fraction as a remainder of the prime."""
    return worth.numerator * pow(worth.denominator, -1, by_hand.PRIME) % by_hand.PRIME


def goes_evenly(form, modulus):
    """Whether the chain of the form goes on evenly by another modulus than that of the form."""
    _, counts, basis, _ = form
    starts = [(group, {}) for group in range(len(counts))]
    starts += [(group, {at: Fraction(1)}) for at, (_, group) in enumerate(basis)]
    for group, weights in starts:
        told = [read_number(form, group, weights, x) for x in range(2 * form[0] * modulus)]
        for low, middle, high in zip(told, told[modulus:], told[2 * modulus:]):
            if not (len(low[0]) == len(middle[0]) == len(high[0]) and low[1] == middle[1] == high[1]):
                return False
            for one, two, three in zip(low[0], middle[0], high[0]):
                if one + three != 2 * two:
                    return False
            for at in {**low[2], **middle[2], **high[2]}:
                if low[2].get(at, 0) + high[2].get(at, 0) != 2 * middle[2].get(at, 0):
                    return False
    return True
