"""Exact sums of vectors of integers.

A vector is a dict from keys, integers from 0, to integers, none of which is 0. A blend is a pair
`(parts, scale)` of such a vector and an integer greater than 0: it stands for the sum, over the
keys of parts, of the thing with this key times `parts[key] / scale`.
"""

from math import gcd, lcm


def only(key):
    """Return the blend that is the thing with this key itself."""
    return {key: 1}, 1


def without_zeros(vector):
    """Return the vector without the keys that have 0."""
    return {key: number for key, number in vector.items() if number != 0}


def divisor(vector):
    """Return the greatest common divisor of the vector's integers, 0 if there are none."""
    common = 0
    for number in vector.values():
        common = gcd(common, number)
    return common


def divided(vector, by):
    """Return the vector with each integer divided by a common divisor."""
    return {key: number // by for key, number in vector.items()}


def add_to(total, vector, times):
    """Add the vector, so many times, to the dict total, which may get zeros by it."""
    for key, number in vector.items():
        total[key] = total.get(key, 0) + times * number


def combined(vector, times, other, other_times):
    """Return the sum of the two vectors, so many times each, without a common divisor."""
    total = {key: number * times for key, number in vector.items()}
    add_to(total, other, other_times)
    left = without_zeros(total)
    return divided(left, divisor(left)) if left else left


def shortened(parts, scale):
    """Return the blend of these parts, some of which may be 0, without a common divisor."""
    left = without_zeros(parts)
    by = gcd(divisor(left), scale)
    return divided(left, by), scale // by


def blended(blend, table):
    """Return a blend of things that are blends themselves, those of the table, as one of theirs."""
    parts, scale = blend
    common = 1
    for key in parts:
        common = lcm(common, table[key][1])
    total = {}
    for key, number in parts.items():
        inner, inner_scale = table[key]
        add_to(total, inner, number * (common // inner_scale))
    return shortened(total, scale * common)


class Span:
    """Members, each with a vector, of which no vector is a blend of those of the others.

    `lines` are sums of members' vectors, each by its leading key, which no other line has. A line
    also tells, by the keys below 0, of which members it is the sum: -1 - name is that of a name.
    """

    def __init__(self):
        self.lines = {}

    def place(self, blend, name):
        """Return the members of which this blend is one; a new member, of this name, if there are none.

        The names are integers from 0, and a member's name is not used again.
        """
        parts, scale = blend
        mark = -1 - name
        line = self.cleared({**parts, mark: scale})
        leads = [key for key in line if key >= 0]
        if leads:
            self.take_in(min(leads), line)
            return only(name)
        # The line has become a sum of members, and of this one, that is 0 throughout.
        own = line.pop(mark)
        return shortened({-1 - key: -number for key, number in line.items()}, own)

    def cleared(self, line):
        """Return a multiple of the line, plus such of the lines, that has no leading key of these."""
        leads = [key for key in line if key in self.lines]
        times = 1
        for lead in leads:
            times = lcm(times, self.lines[lead][lead])
        total = {key: number * times for key, number in line.items()}
        for lead in leads:
            one = self.lines[lead]
            add_to(total, one, -(total[lead] // one[lead]))
        return without_zeros(total)

    def take_in(self, lead, line):
        """Add a line that has no leading key of the others, and clear its own from these."""
        new = divided(line, divisor(line))
        for key in list(self.lines):
            one = self.lines[key]
            if lead in one:
                self.lines[key] = combined(one, new[lead], new, -one[lead])
        self.lines[lead] = new
