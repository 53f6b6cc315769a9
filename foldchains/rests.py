"""Rests: which anchors' rests are mixes of those of others."""

from foldchains.spans import combined, only, shortened

# A test is a pair of a group and, for each of its anchors, one of the numbers that its rest tells,
# at a place that is the same for all of them. A tie is a vector of anchors: it claims that the sum
# of their rests, so many times each, is 0 throughout.


def told_rests(machine, groups):
    """Return for each anchor the blend of anchors that its rest is, each of which is its own blend.

    First each anchor is claimed to have a rest that is 0 throughout. Each test that a claim does
    not stand is spent: one claim is given up for it, and all others are put right by that one.
    """
    ties = [{anchor: {anchor: 1} for anchor in anchors} for anchors in groups.anchors]
    spend_tests(machine, groups, ties)
    told = [only(anchor) for anchor in range(len(machine.anchors))]
    for tied in ties:
        for anchor, tie in tied.items():
            told[anchor] = untied(anchor, tie)
    return told


def spend_tests(machine, groups, ties):
    """Give up and mend the ties until they stand every test.

    Only behind a test that was spent there can be one that is, too: all others are sums of those.
    """
    spent = []
    for test in first_tests(machine, groups):
        if refutes(test, ties):
            spent.append(test)
    moves_to = moves_by_group(groups)
    at = 0
    while at < len(spent):
        group, numbers = spent[at]
        for ahead, number in moves_to[group]:
            # A group without ties is spared the work.
            if ties[ahead]:
                test = test_ahead(machine, groups, ahead, number, numbers)
                if refutes(test, ties):
                    spent.append(test)
        at += 1


def first_tests(machine, groups):
    """Return the tests at the first number behind a row."""
    tests = []
    for group, anchors in enumerate(groups.anchors):
        for number in range(2 * machine.modulus):
            many, _ = groups.counts[group][number % machine.modulus]
            for place in range(many):
                numbers = {anchor: machine.moves[anchor][number][0][place] for anchor in anchors}
                tests.append((group, numbers))
    return tests


def moves_by_group(groups):
    """Return for each group the pairs of a group and a number behind which it is."""
    found = [[] for _ in groups.counts]
    for group, line in enumerate(groups.counts):
        for number, (_, behind) in enumerate(line):
            found[behind].append((group, number))
            found[behind].append((group, number + len(line)))
    return found


def test_ahead(machine, groups, group, number, numbers):
    """Return the test that is this number and then, behind it, the test of these numbers."""
    ahead = {}
    for anchor in groups.anchors[group]:
        parts, scale = machine.moves[anchor][number][2]
        total = 0
        for key, times in parts.items():
            total += times * numbers[key]
        # Nothing is lost: a chain only gives integers.
        ahead[anchor] = total // scale
    return group, ahead


def refutes(test, ties):
    """Return whether a tie does not stand the test; give up the first such tie, and mend the others."""
    group, numbers = test
    tied = ties[group]
    gone = None
    gone_worth = 0
    for anchor in list(tied):
        worth = worth_of(tied[anchor], numbers)
        if worth != 0 and gone is None:
            gone = tied.pop(anchor)
            gone_worth = worth
        elif worth != 0:
            tied[anchor] = combined(tied[anchor], gone_worth, gone, -worth)
    return gone is not None


def worth_of(tie, numbers):
    """Return what the sum of the tie is by these numbers of its anchors."""
    total = 0
    for anchor, times in tie.items():
        total += times * numbers[anchor]
    return total


def untied(anchor, tie):
    """Return the blend of the other anchors of the tie that this one is by it."""
    own = tie[anchor]
    sign = 1 if own < 0 else -1
    parts = {key: sign * times for key, times in tie.items() if key != anchor}
    return shortened(parts, abs(own))
