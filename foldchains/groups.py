"""Groups: which controls of a machine count alike."""


class Groups:
    """The groups of a machine's controls, numbered in the sequence in which they are found.

    `counts` are for each group, and each number from 0 to the machine's modulus - 1: how many
    numbers are given for it, and the number of the group behind it.
    """

    def __init__(self, machine):
        lines = [count_line(machine, members[0]) for members in machine.members]
        classes = alike(lines)
        self.firsts = firsts_found(lines, classes)
        numbers = {classes[control]: at for at, control in enumerate(self.firsts)}
        self.of_control = [numbers[found] for found in classes]
        self.counts = [
            tuple([(many, self.of_control[behind]) for many, behind in lines[control]])
            for control in self.firsts
        ]
        self.anchors = [[] for _ in self.firsts]
        for members, group in zip(machine.members, self.of_control):
            self.anchors[group].extend(members)


def count_line(machine, anchor):
    """Return, for each number of the modulus, how many are given for it and the control behind it."""
    moves = machine.moves[anchor][:machine.modulus]
    return [(len(given), control) for given, control, _ in moves]


def alike(lines):
    """Return for each control the number of its class: those of one class count alike for all rows."""
    classes = [0] * len(lines)
    many = 0
    while many < len(lines):
        keys = [tuple([(given, classes[to]) for given, to in line]) for line in lines]
        numbers = {}
        for key in keys:
            numbers.setdefault(key, len(numbers))
        # Classes only ever fall apart, so they stay as they are once there are no more of them.
        if len(numbers) == many:
            break
        many = len(numbers)
        classes = [numbers[key] for key in keys]
    return classes


def firsts_found(lines, classes):
    """Return for each class a control of it, in the sequence in which the classes are found."""
    firsts = [0]
    found = {classes[0]: True}
    at = 0
    while at < len(firsts):
        line = lines[firsts[at]]
        for _, behind in line:
            if classes[behind] not in found:
                found[classes[behind]] = True
                firsts.append(behind)
        at += 1
    return firsts
