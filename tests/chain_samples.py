"""Values for several tests. What is right is written out here by hand, not asked of the program."""

from itertools import product
from random import Random

# Each kind with one step of it.
KINDS = {
    "line": ("line", -3, 9),
    "turn": ("turn", 3, 2, -2, -9),
    "keep": ("keep", 2, 1),
    "every": ("every", 3, 0),
    "twice": ("twice",),
    "sums": ("sums",),
    "anew": ("anew", 2, 0),
    "gaps": ("gaps",),
    "groups": ("groups", 3),
    "count": ("count",),
}

PAIRS = ((2, 0), (2, 1), (3, 0), (3, 1), (3, 2))


def all_steps():
    """Every step of point 2.2."""
    lines = list(product(range(-3, 4), range(-9, 10)))
    steps = [("line", a, b) for a, b in lines]
    steps += [("turn", m, r, a, b) for m, r in PAIRS for a, b in lines]
    for name in ("keep", "every", "anew"):
        steps += [(name, m, r) for m, r in PAIRS]
    return steps + [("twice",), ("sums",), ("gaps",), ("groups", 2), ("groups", 3), ("count",)]


def count_of(names, words):
    return sum([name in words for name in names])


def allowed(names):
    """Whether point 2.3 allows a chain of steps of these kinds."""
    return (
        len(names) <= 4
        and count_of(names, ("sums", "anew", "gaps", "groups", "count")) <= 2
        and count_of(names, ("turn", "keep", "anew")) <= 2
        and count_of(names, ("twice",)) <= 1
    )


def name_rows(many):
    """Every sequence of this many kinds."""
    return list(product(KINDS, repeat=many))


def kind_chains():
    """A chain for each sequence of kinds that point 2.3 allows, with the numbers varied."""
    by_name = {name: [step for step in all_steps() if step[0] == name] for name in KINDS}
    chains = []
    for many in range(5):
        for names in name_rows(many):
            if allowed(names):
                at = len(chains)
                chains.append(tuple(
                    by_name[name][(at * 7 + place * 11) % len(by_name[name])]
                    for place, name in enumerate(names)
                ))
    return chains


# Chains but for the limits of point 2.3, almost all of which pass only one of them, by one step.
BEYOND_LIMITS = (
    (("sums",), ("sums",), ("sums",)),
    (("gaps",), ("count",), ("groups", 2)),
    (("sums",), ("gaps",), ("line", 1, 0), ("count",)),
    (("anew", 2, 0), ("sums",), ("count",)),
    (("anew", 3, 0), ("gaps",), ("anew", 2, 1)),
    (("keep", 2, 0), ("keep", 2, 0), ("keep", 2, 0)),
    (("turn", 2, 0, 1, 1), ("keep", 3, 0), ("turn", 3, 1, 0, 0)),
    (("anew", 2, 0), ("keep", 2, 0), ("turn", 2, 0, 1, 1)),
    (("anew", 2, 0), ("anew", 2, 0), ("line", 1, 1), ("keep", 3, 2)),
    (("twice",), ("twice",)),
    (("twice",), ("sums",), ("every", 2, 0), ("twice",)),
    (("line", 1, 1),) * 5,
    (("every", 2, 0),) * 5,
    (("every", 2, 0), ("line", 1, 1), ("sums",), ("keep", 2, 0), ("twice",)),
    (("line", 1, 1),) * 3000,
)

# Each limit of point 2.3 kept exactly.
AT_LIMITS = (
    (("line", 1, 1),) * 4,
    (("every", 3, 2),) * 4,
    (("sums",), ("sums",)),
    (("gaps",), ("line", 0, 0), ("groups", 3), ("every", 2, 1)),
    (("count",), ("anew", 3, 2)),
    (("anew", 2, 0), ("anew", 2, 1)),
    (("anew", 2, 0), ("anew", 2, 1), ("twice",), ("line", 2, 2)),
    (("keep", 2, 0), ("turn", 2, 0, 3, 3)),
    (("turn", 2, 0, 3, 3), ("turn", 2, 1, 3, 3)),
    (("keep", 3, 0), ("anew", 3, 1), ("sums",), ("twice",)),
    (("sums",), ("gaps",), ("keep", 2, 0), ("turn", 3, 0, 1, 0)),
    (("twice",),),
)

# In place of a number from 0 to 3.
NO_NUMBERS = (True, False, "0", "1", "2", "", None, 0.0, 1.0, 2.0, float("nan"), float("inf"),
              (), (2,), [2], {}, {2: 2}, 1 + 0j, b"2")


def nested(inner, depth):
    """Tuples, lists and dicts of the value, this deep, of each kind and of all three in turn."""
    values = [inner] * 4
    for at in range(depth):
        wraps = (lambda x: (x,), lambda x: [x], lambda x: {"sums": x})
        values = [wrap(x) for wrap, x in zip(wraps + (wraps[at % 3],), values)]
    return values


def wrong_anywhere():
    """Values that are no chain, no step, no number and no text of a chain."""
    values = [True, False, None, 0.0, 1.5, float("nan"), float("inf"), -1.0]
    values += [[], {}, [()], ((),), {"sums": 1}, [("sums",)], (["sums"],), ({"sums": 0},)]
    for inner in (True, None, 2.5, "sums", ("sums",), 3, ""):
        for depth in (2, 3, 29, 30):
            values += nested(inner, depth)
    return [value for value in values if value != (("sums",),)]


def without_repeats(values):
    """The values, each where it stands first."""
    return list({value: True for value in values})


def drawn_chains(seed, many, most_steps=4):
    """Chains of 1 to 4 steps, of kinds and numbers that are drawn, the same ones each time."""
    draw = Random(seed)
    by_name = {name: [step for step in all_steps() if step[0] == name] for name in KINDS}
    chains = []
    while len(chains) < many:
        names = [draw.choice(list(KINDS)) for _ in range(draw.randint(1, most_steps))]
        if allowed(names):
            chains.append(tuple(draw.choice(by_name[name]) for name in names))
    return without_repeats(chains)


# The chains with the greatest forms: two steps with totals ahead of two that look at remainders.
GREAT = (
    (("sums",), ("sums",), ("turn", 3, 1, 2, 5), ("turn", 2, 1, -1, 3)),
    (("groups", 3), ("gaps",), ("keep", 3, 1), ("keep", 2, 1)),
    (("groups", 3), ("groups", 3), ("turn", 2, 1, -1, 3), ("turn", 3, 1, 2, 5)),
    (("sums",), ("groups", 3), ("keep", 2, 0), ("turn", 3, 2, 3, -9)),
    (("groups", 2), ("sums",), ("turn", 3, 0, -3, 1), ("keep", 2, 1)),
    (("sums",), ("anew", 3, 1), ("keep", 2, 1), ("twice",)),
    (("anew", 2, 1), ("anew", 3, 2), ("twice",), ("line", -2, 9)),
    (("count",), ("sums",), ("turn", 3, 2, 2, 2), ("keep", 2, 0)),
    (("every", 3, 2), ("groups", 3), ("every", 2, 1), ("gaps",)),
    (("every", 3, 2),) * 4,
)

# In place of a row.
WRONG_ROWS = (
    (0,) * 61, (10 ** 30,) * 61, tuple(range(3000)), (10 ** 30 + 1,), (-10 ** 30 - 1,),
    (1, 2, 10 ** 30 + 1), (-10 ** 30 - 1, 0), (10 ** 5000,), (True,), (False,), (1, 2, True),
    (0,) * 59 + (False,), (1.0,), (0.0,), (1, 2.5), (float("nan"),), (float("inf"),), ("1",),
    ("",), (None,), (1, None), ((),), ((1,),), ([],), ([1],), ({},), (1, (2, 3)), [], [1], [1, 2],
    {}, {1: 2}, {0: 0, 1: 1}, "", "1", "12", b"", b"1", None, True, False, 0, 1, -1, 10 ** 30,
    1.5, range(3), {1, 2}, iter((1, 2)),
)


def wrong_rows():
    """Values that are no rows within the limits."""
    return list(WRONG_ROWS) + wrong_anywhere() + [(0, value) for value in wrong_anywhere()]


def wrong_chains():
    """Values that are no chains."""
    wrong = wrong_anywhere() + list(BEYOND_LIMITS)
    wrong += [[], "", "sums", 0, 10 ** 5000, b"sums", [("sums",)], ("sums",), ((("sums",),),),
              (["sums"],), (("line", 4, 0),), (("line", True, 0),), (("line", 1.0, 0),),
              (("line", 10 ** 5000, 0),), (("keep", 2, 2),), (("every", 2),), (("none",),)]
    return wrong
