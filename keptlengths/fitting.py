"""Machines that are fitted to samples [16]."""

from keptlengths.errors import NoShape, NoTexts
from keptlengths.machines import is_framed, is_text
from keptlengths.values import is_pair, is_within


def is_shape(thing):
    """Whether a thing is a shape."""
    if not is_framed(thing):
        return False
    size, rows = thing
    return all([is_shape_row(row, size, len(rows)) for row in rows])


def is_shape_row(thing, size, states):
    """Whether a thing is a row of a shape of this size with so many states."""
    if not is_pair(thing):
        return False
    end, steps = thing
    if not isinstance(end, bool) or not isinstance(steps, tuple) or len(steps) != size:
        return False
    return all([step is None or is_within(step, 0, states - 1) for step in steps])


def fitted(shape, texts):
    """The machine of a shape by which texts are needed the fewest bits, state by state."""
    if not is_shape(shape):
        raise NoShape()
    size, rows = shape
    if not isinstance(texts, tuple) or not all([is_text(size, text) for text in texts]):
        raise NoTexts()
    counts = [[0] * (size + 1) for row in rows]
    for text in texts:
        count_text(rows, text, counts)
    return (size, tuple([fitted_row(row, taken) for row, taken in zip(rows, counts)]))


def count_text(rows, text, counts):
    """Count each letter that a text takes at its state, and its end behind all letters."""
    state = 0
    for letter in text:
        counts[state][letter] += 1
        state = rows[state][1][letter]
        if state is None:
            raise NoTexts()
    end, steps = rows[state]
    if not end:
        raise NoTexts()
    counts[state][len(steps)] += 1


def fitted_row(row, counts):
    """The row of a machine for a row of a shape, by how often each choice is taken."""
    end, steps = row
    choices = [letter for letter, step in enumerate(steps) if step is not None]
    if end:
        choices.append(len(steps))
    bits = [None] * len(counts)
    for choice, number in zip(choices, fewest_bits([counts[choice] for choice in choices])):
        bits[choice] = number
    if choices == [len(steps)]:
        # An end takes a bit, even where there is no choice.
        bits[len(steps)] = 1
    return (bits[len(steps)], tuple([
        None if step is None else (more, step) for more, step in zip(bits, steps)]))


def fewest_bits(counts):
    """For each choice its bits: the least sum by the counts, of several the least as a tuple."""
    if not counts:
        return ()
    # Where choices are taken alike often, the fewer bits go to the first one.
    order = sorted(range(len(counts)), key=lambda k: -counts[k])
    found = []
    for depths in full_depths(1, len(counts), 0):
        bits = [0] * len(counts)
        for choice, depth in zip(order, depths):
            bits[choice] = depth
        cost = sum([number * taken for number, taken in zip(bits, counts)])
        found.append((cost, tuple(bits)))
    return min(found)[1]


def full_depths(nodes, leaves, depth):
    """The ascending depths of the leaves of all trees that leave no bits unused.

    So many nodes of one depth are to have so many leaves below them. Where
    bits are left unused, one of the deepest leaves can be raised, which
    lessens the tuple of bits and does not raise the sum.
    """
    if nodes == leaves:
        return [[depth] * leaves]
    found = []
    for ended in range(nodes):
        inner = 2 * (nodes - ended)
        if inner <= leaves - ended:
            found += [[depth] * ended + rest for rest in full_depths(inner, leaves - ended, depth + 1)]
    return found
