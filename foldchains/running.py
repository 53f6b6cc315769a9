"""Chains at work: what they give for numbers, one after the other."""

from foldchains.chains import check_chain
from foldchains.rows import check_row

# What a step holds between two numbers is a pair: a place, of which there are only a few, and a
# total, which may be any integer. Nothing that the steps do depends on more than these.
NOTHING_HELD = (0, 0)


def give_line(step, held, number):
    """Take a number to a `line`: return what is given, and what is held behind it."""
    return (step[1] * number + step[2],), held


def give_turn(step, held, number):
    """Take a number to a `turn`."""
    if number % step[1] != step[2]:
        return (number,), held
    return (step[3] * number + step[4],), held


def give_keep(step, held, number):
    """Take a number to a `keep`."""
    if number % step[1] != step[2]:
        return (), held
    return (number,), held


def give_every(step, held, number):
    """Take a number to an `every`, whose place is how many came ahead, by its k."""
    place, total = held
    given = (number,) if place == step[2] else ()
    return given, ((place + 1) % step[1], total)


def give_twice(step, held, number):
    """Take a number to a `twice`."""
    return (number, number), held


def give_sums(step, held, number):
    """Take a number to a `sums`, whose total is the sum of all that came."""
    place, total = held
    return (total + number,), (place, total + number)


def give_anew(step, held, number):
    """Take a number to an `anew`, whose total is the sum from the last one on that began anew."""
    place, total = held
    if number % step[1] == step[2]:
        total = 0
    return (total + number,), (place, total + number)


def give_gaps(step, held, number):
    """Take a number to a `gaps`, whose total is the number that came ahead."""
    place, total = held
    return (number - total,), (place, number)


def give_groups(step, held, number):
    """Take a number to a `groups`, which holds how many of a group came, and their sum."""
    place, total = held
    if place + 1 < step[1]:
        return (), (place + 1, total + number)
    return (total + number,), NOTHING_HELD


def give_count(step, held, number):
    """Take a number to a `count`, whose total is how many came."""
    place, total = held
    return (total + 1,), (place, total + 1)


GIVERS = {
    "line": give_line,
    "turn": give_turn,
    "keep": give_keep,
    "every": give_every,
    "twice": give_twice,
    "sums": give_sums,
    "anew": give_anew,
    "gaps": give_gaps,
    "groups": give_groups,
    "count": give_count,
}


def start(chain):
    """Return the state of a chain to which nothing came: what each of its steps holds."""
    return (NOTHING_HELD,) * len(chain)


def advance(chain, state, number):
    """Return the tuple that the chain gives for the number in this state, and the state behind it."""
    numbers = [number]
    state_behind = []
    for step, held in zip(chain, state):
        numbers, held_behind = pass_through(step, held, numbers)
        state_behind.append(held_behind)
    return tuple(numbers), tuple(state_behind)


def pass_through(step, held, numbers):
    """Return what the step gives for all the numbers, and what it holds behind them."""
    giver = GIVERS[step[0]]
    out = []
    now = held
    for number in numbers:
        given, now = giver(step, now, number)
        out.extend(given)
    return out, now


def run(chain, row):
    """Return what the chain gives for the row."""
    check_chain(chain)
    check_row(row)
    return run_on(chain, start(chain), row)[0]


def run_on(chain, state, row):
    """Return all that the chain gives for the row in this state, and the state behind it."""
    out = []
    now = state
    for number in row:
        given, now = advance(chain, now, number)
        out.extend(given)
    return tuple(out), now
