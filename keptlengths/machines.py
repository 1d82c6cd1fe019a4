"""Machines, their texts and lengths, and the rings in them that take no bits [6]."""

from keptlengths.errors import NoMachine, NoSize, NoText
from keptlengths.values import is_pair, is_within

MOST_LETTERS = 8
MOST_STATES = 30
MOST_BITS = 60


def is_machine(thing):
    """Whether a thing is a machine."""
    if not is_framed(thing):
        return False
    size, rows = thing
    return all([is_row(row, size, len(rows)) for row in rows])


def is_framed(thing):
    """Whether a thing is a pair of a size and a tuple of as many items as there may be states."""
    if not is_pair(thing):
        return False
    size, rows = thing
    return is_size(size) and isinstance(rows, tuple) and 1 <= len(rows) <= MOST_STATES


def is_size(thing):
    """Whether a thing is a size."""
    return is_within(thing, 1, MOST_LETTERS)


def is_row(thing, size, states):
    """Whether a thing is a row of a machine of this size with so many states."""
    if not is_pair(thing):
        return False
    end, steps = thing
    if end is not None and not is_within(end, 1, MOST_BITS):
        return False
    if not isinstance(steps, tuple) or len(steps) != size:
        return False
    return all([step is None or is_step(step, states) for step in steps])


def is_step(thing, states):
    """Whether a thing is a pair of bits and of one of so many states."""
    if not is_pair(thing):
        return False
    more, state = thing
    return is_within(more, 0, MOST_BITS) and is_within(state, 0, states - 1)


def is_text(size, thing):
    """Whether a thing is a text of a size."""
    if not is_size(size):
        raise NoSize()
    return isinstance(thing, tuple) and all([is_within(letter, 0, size - 1) for letter in thing])


def is_bits(thing):
    """Whether a thing is a string of 0 and 1."""
    return isinstance(thing, str) and all([sign in ("0", "1") for sign in thing])


def demand_machine(thing):
    """Raise NoMachine for what is no machine."""
    if not is_machine(thing):
        raise NoMachine()


def length(machine, text):
    """How many bits a text takes, None for what is none of the machine's texts."""
    demand_machine(machine)
    size, rows = machine
    if not is_text(size, text):
        raise NoText()
    bits = 0
    state = 0
    for letter in text:
        step = rows[state][1][letter]
        if step is None:
            return None
        bits += step[0]
        state = step[1]
    end = rows[state][0]
    return None if end is None else bits + end


def owned_length(machine, text):
    """How many bits a text takes. NoText is raised also for what is none of the machine's texts."""
    bits = length(machine, text)
    if bits is None:
        raise NoText()
    return bits


def trimmed(machine):
    """The machine with those states alone through which its texts go, numbered anew."""
    demand_machine(machine)
    return trimmed_of(machine)


def trimmed_of(machine):
    """As trimmed, of a machine with as many states as it may be."""
    size, rows = machine
    come_to = spread([0], nexts(rows))
    ending = spread([state for state, row in enumerate(rows) if row[0] is not None], befores(rows))
    left = [state for state in range(len(rows)) if come_to[state] and ending[state]]
    if not left:
        return textless(size)
    numbers = {state: number for number, state in enumerate(left)}
    return (size, tuple([renumbered(rows[state], numbers) for state in left]))


def textless(size):
    """The trimmed machine of a size that has no texts."""
    return (size, ((None, (None,) * size),))


def nexts(rows):
    """For each state the list of the states to which its steps lead."""
    return [[step[1] for step in steps if step is not None] for end, steps in rows]


def befores(rows):
    """For each state the list of the states from which steps lead to it."""
    found = [[] for row in rows]
    for state, followers in enumerate(nexts(rows)):
        for follower in followers:
            found[follower].append(state)
    return found


def spread(starts, ways):
    """For each state a flag, whether one comes to it from the starts by the ways."""
    found = [False for state in ways]
    for start in starts:
        found[start] = True
    waiting = list(starts)
    while waiting:
        at = waiting.pop()
        for state in ways[at]:
            if not found[state]:
                found[state] = True
                waiting.append(state)
    return found


def renumbered(row, numbers):
    """A row with its steps to the numbered states alone, by their numbers."""
    end, steps = row
    return (end, tuple([renumbered_step(step, numbers) for step in steps]))


def renumbered_step(step, numbers):
    """A step by its state's number, None if it has none."""
    if step is None or step[1] not in numbers:
        return None
    return (step[0], numbers[step[1]])


def idle(machine):
    """A state of trimmed and letters that lead round to it without a bit, or None."""
    rows = trimmed(machine)[1]
    for state in range(len(rows)):
        letters = idle_round(rows, state)
        if letters is not None:
            return (state, letters)
    return None


def idle_round(rows, start):
    """The fewest letters that lead from a state round to it without a bit, or None."""
    ways = [(start, ())]
    seen = set()
    at = 0
    # The fewest letters meet no state twice, so they are never more than the states.
    while at < len(ways):
        state, letters = ways[at]
        at += 1
        for letter, step in enumerate(rows[state][1]):
            if step is None or step[0] > 0:
                continue
            if step[1] == start:
                return letters + (letter,)
            if step[1] not in seen:
                seen.add(step[1])
                ways.append((step[1], letters + (letter,)))
    return None


def is_idle(machine, thing):
    """Whether a thing is a state of trimmed and letters that lead round to it without a bit."""
    size, rows = trimmed(machine)
    if not is_pair(thing):
        return False
    start, letters = thing
    if not is_within(start, 0, len(rows) - 1) or not is_text(size, letters) or letters == ():
        return False
    state = start
    for letter in letters:
        step = rows[state][1][letter]
        if step is None or step[0] > 0:
            return False
        state = step[1]
    return state == start
