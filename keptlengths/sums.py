"""Sums of 2 ** -length over all texts of a machine, told by its own equations [7]."""

from math import gcd, lcm

from keptlengths.machines import MOST_BITS, trimmed
from keptlengths.values import is_number, is_pair


def total(machine):
    """The sum of 2 ** -length over all texts, None if it passes every bound."""
    told = worths(machine)
    return None if told is None else told[0]


def worths(machine):
    """For each state of trimmed the sum for what can still come, None if total is None."""
    rows = trimmed(machine)[1]
    return solved([equation(rows, state) for state in range(len(rows))])


def is_worths(machine, thing):
    """Whether a thing is a tuple of fractions that satisfies the machine's equations."""
    rows = trimmed(machine)[1]
    if not isinstance(thing, tuple) or len(thing) != len(rows):
        return False
    if not all([is_fraction(worth) for worth in thing]):
        return False
    return are_balanced(rows, thing)


def kept(machine):
    """Whether total is at most 1."""
    told = total(machine)
    return told is not None and told[0] <= told[1]


def raised(machine):
    """The least number of bits more for all texts by which total is at most 1, or None."""
    told = total(machine)
    return None if told is None else halvings(told)


def halvings(worth):
    """The least integer from 0 on such that a fraction, halved so often, is at most 1."""
    top, bottom = worth
    number = 0
    while top > bottom << number:
        number += 1
    return number


def is_fraction(thing):
    """Whether a thing is a pair of integers from 0 on in lowest terms."""
    if not is_pair(thing):
        return False
    top, bottom = thing
    if not is_number(top) or not is_number(bottom):
        return False
    return top >= 0 and bottom >= 1 and gcd(top, bottom) == 1


def lowest(top, bottom):
    """The fraction of two integers, the lower one above 0."""
    common = gcd(top, bottom)
    return (top // common, bottom // common)


def shares(row, states):
    """What each state's worth counts in a row's worth, then its end, all times 2 ** 60."""
    end, steps = row
    found = [0] * (states + 1)
    for step in steps:
        if step is not None:
            more, state = step
            found[state] += 1 << (MOST_BITS - more)
    if end is not None:
        found[states] = 1 << (MOST_BITS - end)
    return found


def are_balanced(rows, told):
    """Whether each state's worth is that of its end and its steps together."""
    bottom = 1
    for worth in told:
        bottom = lcm(bottom, worth[1])
    tops = [worth[0] * (bottom // worth[1]) for worth in told]
    for state, row in enumerate(rows):
        parts = [share * top for share, top in zip(shares(row, len(rows)), tops + [bottom])]
        if sum(parts) != tops[state] << MOST_BITS:
            return False
    return True


def equation(rows, state):
    """A state's equation: what each worth counts on the left side, then the right side."""
    found = shares(rows[state], len(rows))
    left = [-share for share in found[:-1]]
    left[state] += 1 << MOST_BITS
    return left + [found[-1]]


def solved(table):
    """The fractions that solve all equations, None if no sums satisfy them.

    The elimination stays within integers, so each pivot is a leading minor of
    the table. All of them are above 0 exactly if the sums are bounded. Where
    they are not, the equations may still have a solution, so that a pivot of
    0 or below must end it.
    """
    last = 1
    states = len(table)
    for at in range(states):
        chosen = table[at]
        if chosen[at] <= 0:
            return None
        table = [row if k == at else cleared(row, chosen, at, last) for k, row in enumerate(table)]
        last = chosen[at]
    return tuple([lowest(row[-1], last) for row in table])


def cleared(row, chosen, at, last):
    """A row with 0 at a place, by the chosen row. What the last pivot divides, it divides."""
    return [(chosen[at] * here - row[at] * there) // last for here, there in zip(row, chosen)]
