"""The document's definitions worked out the long way, over whole rows, without the program."""

from fractions import Fraction
from itertools import product
from random import Random

# Far greater than any number that could divide a determinant here by chance.
PRIME = 2 ** 89 - 1


def step_over(step, pairs):
    """What a step gives for all that comes to it: pairs of a place in the row, and a number."""
    name, numbers = step[0], step[1:]
    worths = [worth for _, worth in pairs]
    places = [place for place, _ in pairs]
    if name == "line":
        a, b = numbers
        return [(place, a * worth + b) for place, worth in pairs]
    if name == "turn":
        m, r, a, b = numbers
        return [(place, a * worth + b if worth % m == r else worth) for place, worth in pairs]
    if name == "keep":
        return [(place, worth) for place, worth in pairs if worth % numbers[0] == numbers[1]]
    if name == "every":
        return [pair for at, pair in enumerate(pairs) if at % numbers[0] == numbers[1]]
    if name == "twice":
        return [pair for pair in pairs for _ in range(2)]
    if name == "sums":
        return [(place, sum(worths[:at + 1])) for at, place in enumerate(places)]
    if name == "anew":
        return [(place, sum(worths[last_anew(worths[:at + 1], *numbers):at + 1]))
                for at, place in enumerate(places)]
    if name == "gaps":
        return [(place, worths[at] - ([0] + worths)[at]) for at, place in enumerate(places)]
    if name == "groups":
        many = numbers[0]
        return [(place, sum(worths[at + 1 - many:at + 1]))
                for at, place in enumerate(places) if (at + 1) % many == 0]
    if name == "count":
        return [(place, at + 1) for at, place in enumerate(places)]
    raise AssertionError(step)


def last_anew(worths, m, r):
    """The place of the last number whose remainder by m is r, or 0."""
    return max([at for at, worth in enumerate(worths) if worth % m == r], default=0)


def told(chain, row):
    """The tuple of the numbers that the chain gives for each number of the row."""
    pairs = list(enumerate(row))
    for step in chain:
        pairs = step_over(step, pairs)
    given = [[] for _ in row]
    for place, worth in pairs:
        given[place].append(worth)
    return [tuple(numbers) for numbers in given]


def run_by_hand(chain, row):
    """What the chain gives for the row."""
    return tuple(number for numbers in told(chain, row) for number in numbers)


def rest(chain, row, probes):
    """What the rest behind the row tells for the probes: how many numbers each time, and all of them."""
    counts, worths = [], []
    for probe in probes:
        for numbers in told(chain, row + probe)[len(row):]:
            counts.append(len(numbers))
            worths.extend(numbers)
    return tuple(counts), worths


def drawn_rows(seed, many, length, span=20):
    """Rows of this length, of numbers from -span to span."""
    draw = Random(seed)
    return [tuple(draw.randint(-span, span) for _ in range(length)) for _ in range(many)]


def is_even(chain, modulus, rows, probes):
    """Whether nothing speaks against the chain going on evenly by the modulus, as point 2.5 says."""
    for row in rows:
        for x in range(-1, 7):
            ahead = [rest(chain, row, [(x + times * modulus,) + probe for probe in probes])
                     for times in (0, 1, -2, 2, 3)]
            first, second = ahead[:2]
            for times, other in zip((-2, 2, 3), ahead[2:]):
                if not first[0] == second[0] == other[0]:
                    return False
                if any((1 - times) * a + times * b != c
                       for a, b, c in zip(first[1], second[1], other[1])):
                    return False
    return True


def modulus_by_hand(chain, rows, probes):
    """The least modulus against which nothing speaks."""
    modulus = 1
    while not is_even(chain, modulus, rows, probes):
        modulus += 1
    return modulus


class Mixes:
    """Rows of numbers, of which no one is a mix of the others, by remainders of a great prime."""

    def __init__(self):
        self.lines = {}

    def add(self, worths):
        """Add what is no mix; return whether it was none."""
        line = [worth % PRIME for worth in worths]
        for lead, other in self.lines.items():
            if line[lead]:
                times = line[lead]
                line = [(a - times * b) % PRIME for a, b in zip(line, other)]
        lead = next((at for at, worth in enumerate(line) if worth), None)
        if lead is None:
            return False
        by = pow(line[lead], -1, PRIME)
        self.lines[lead] = [worth * by % PRIME for worth in line]
        return True


def counts_by_hand(chain, modulus, probes):
    """The counts of the form, and what the rest of a row of each group counts."""
    rows = [()]
    keys = [rest(chain, (), probes)[0]]
    counts = []
    while len(counts) < len(rows):
        row, line = rows[len(counts)], []
        for x in range(modulus):
            behind = row + (x,)
            key = rest(chain, behind, probes)[0]
            if key not in keys:
                keys.append(key)
                rows.append(behind)
            line.append((len(told(chain, behind)[-1]), keys.index(key)))
        counts.append(tuple(line))
    return tuple(counts), keys


def basis_by_hand(chain, modulus, keys, probes):
    """The basis of the form."""
    basis = []
    mixes = [Mixes() for _ in keys]

    def look_at(row):
        key, worths = rest(chain, row, probes)
        group = keys.index(key)
        if mixes[group].add(worths):
            basis.append((row, group))

    look_at(())
    at = 0
    while at < len(basis):
        for x in range(2 * modulus):
            look_at(basis[at][0] + (x,))
        at += 1
    return tuple(basis)


def is_mix(chain, row, mix, basis, probes):
    """Whether the rest behind the row is this mix of those of basis rows, by all the probes."""
    key, worths = rest(chain, row, probes)
    total = [Fraction(0)] * len(worths)
    for at, (top, bottom) in mix:
        other_key, others = rest(chain, basis[at][0], probes)
        if other_key != key:
            return False
        total = [a + Fraction(top, bottom) * b for a, b in zip(total, others)]
    return total == worths


def all_rows(numbers, longest):
    """All rows of these numbers, in the sequence of point 2.1."""
    for length in range(longest + 1):
        yield from product(numbers, repeat=length)
