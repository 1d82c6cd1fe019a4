"""Machines put together from others, each told trimmed [14]."""

from keptlengths.compare import demand_both, end_of, explored, stepped_pair
from keptlengths.errors import NoEnd, NoLetters, NoMachines, NoNumber, NoSize, TooMany
from keptlengths.machines import (
    MOST_BITS, MOST_LETTERS, MOST_STATES, demand_machine, is_machine, textless, trimmed, trimmed_of,
)
from keptlengths.values import is_within

FEWEST_TOGETHER = 2
MOST_TOGETHER = 7


def longer(machine, number):
    """The machine by which each text takes so many bits more."""
    size, rows = trimmed(machine)
    demand_more(number)
    return (size, tuple([(lengthened_end(end, number), steps) for end, steps in rows]))


def relettered(machine, letters):
    """The machine with each letter exchanged for the one that stands at its index."""
    size, rows = trimmed(machine)
    if not is_letters(size, letters):
        raise NoLetters()
    # For each new letter the old one.
    olds = [letters.index(letter) for letter in range(size)]
    return (size, tuple([(end, tuple([steps[old] for old in olds])) for end, steps in rows]))


def filtered(machine, sieve):
    """The machine of those texts that are texts of a sieve."""
    return sieved(machine, sieve, True)


def without(machine, sieve):
    """The machine of those texts that are none of a sieve's."""
    return sieved(machine, sieve, False)


def chosen(machines, more):
    """The machine whose texts are the index of a machine and then a text of it."""
    demand_machines(machines)
    demand_more(more)
    size = machines[0][0]
    starts = []
    rows = []
    for machine in machines:
        part = trimmed(machine)[1]
        if has_texts(part):
            starts.append((more, 1 + len(rows)))
            rows += moved(part, 1 + len(rows))
        else:
            starts.append(None)
    if not rows:
        return textless(size)
    starts += [None] * (size - len(machines))
    return few_enough(size, [(None, tuple(starts))] + rows)


def behind(one, other):
    """The machine whose texts are a text of one, the letter above all, and a text of other."""
    demand_both(one, other)
    size = demand_letter_above(one)
    rows, others = trimmed(one)[1], trimmed(other)[1]
    if not has_texts(rows) or not has_texts(others):
        return textless(size)
    first = [(None, steps + (step_to(end, len(rows)),)) for end, steps in rows]
    second = [(end, steps + (None,)) for end, steps in moved(others, len(rows))]
    return few_enough(size, first + second)


def rows_of(machine, more):
    """The machine whose texts are rows of texts, each with the letter above all behind it."""
    demand_machine(machine)
    size = demand_letter_above(machine)
    demand_more(more)
    rows = trimmed(machine)[1]
    if not has_texts(rows):
        return textless(size)
    found = [(None, steps + (step_to(lengthened_end(end, more), len(rows)),)) for end, steps in rows]
    # Behind a text the row may end, or the next text begins as the first one did.
    return few_enough(size, found + [(1, found[0][1])])


def demand_more(thing):
    """Raise NoNumber for what is no number of bits that may be added."""
    if not is_within(thing, 0, MOST_BITS):
        raise NoNumber()


def demand_machines(thing):
    """Raise NoMachines for what is no tuple of machines among which a letter can choose."""
    if not isinstance(thing, tuple) or not FEWEST_TOGETHER <= len(thing) <= MOST_TOGETHER:
        raise NoMachines()
    if not all([is_machine(machine) for machine in thing]):
        raise NoMachines()
    if not all([machine[0] == thing[0][0] for machine in thing]) or thing[0][0] < len(thing):
        raise NoMachines()


def demand_letter_above(machine):
    """The size with one letter more. NoSize is raised if no more are left."""
    if machine[0] == MOST_LETTERS:
        raise NoSize()
    return machine[0] + 1


def is_letters(size, thing):
    """Whether a thing is a tuple of all letters of a size, each once."""
    if not isinstance(thing, tuple) or len(thing) != size:
        return False
    if not all([is_within(letter, 0, size - 1) for letter in thing]):
        return False
    return len(set(thing)) == size


def has_texts(rows):
    """Whether the rows of a trimmed machine have texts."""
    return any([end is not None for end, steps in rows])


def lengthened_end(end, number):
    """An end with so many bits more, None for none."""
    if end is None:
        return None
    if end + number > MOST_BITS:
        raise NoEnd()
    return end + number


def step_to(more, state):
    """A step of so many bits to a state, None for none."""
    return None if more is None else (more, state)


def moved(rows, number):
    """The list of the rows with all states' numbers raised by a number."""
    found = []
    for end, steps in rows:
        found.append((end, tuple([None if step is None else (step[0], step[1] + number) for step in steps])))
    return found


def few_enough(size, rows):
    """The machine of some rows. TooMany is raised if they are too many."""
    if len(rows) > MOST_STATES:
        raise TooMany(MOST_STATES)
    return (size, tuple(rows))


def sieved(machine, sieve, is_in):
    """The machine of those texts that are texts of a sieve, or of those that are not."""
    demand_both(machine, sieve)
    size = machine[0]
    rows, others = trimmed(machine)[1], trimmed(sieve)[1]

    def step(pair, letter):
        after = stepped_pair(rows, others, pair, letter)[1]
        return None if after[0] is None else after

    pairs, ways = explored((0, 0), size, step)
    found = []
    for (state, twin), led in zip(pairs, ways):
        end = rows[state][0] if (end_of(others, twin) is not None) == is_in else None
        found.append((end, redirected(rows[state][1], led)))
    left = trimmed_of((size, tuple(found)))[1]
    return few_enough(size, left)


def redirected(steps, led):
    """The steps of a state by the ways (letter, next state) that are led, None for other letters."""
    found = [None] * len(steps)
    for letter, after in led:
        found[letter] = (steps[letter][0], after)
    return tuple(found)
