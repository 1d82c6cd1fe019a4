"""Machines of one size compared for all texts, and the kin of states [13]."""

from keptlengths.errors import OtherSize
from keptlengths.machines import demand_machine, is_text, trimmed

MOST_LEADS = 2


def parting(one, other):
    """The earliest text that just one has, or that has unlike lengths by both, or None."""
    demand_both(one, other)
    rows, others = trimmed(one)[1], trimmed(other)[1]

    def step(node, letter):
        gain, pair = stepped_pair(rows, others, node[:2], letter)
        if pair == (None, None):
            return None
        # Where one has stopped each text of the other one parts, whatever it takes.
        return pair + (0 if None in pair else node[2] + gain,)

    nodes, ways = explored((0, 0, 0), one[0], step)
    return earliest(ways, 0, [is_parting(rows, others, node) for node in nodes])


def excess(one, other):
    """By how many bits texts of other take more by one, or what keeps it from being told."""
    demand_both(one, other)
    rows, others = trimmed(one)[1], trimmed(other)[1]
    if all([end is None for end, steps in others]):
        return ("none",)

    def step(pair, letter):
        after = stepped_pair(rows, others, pair, letter)[1]
        return None if after[1] is None else after

    pairs, ways = explored((0, 0), one[0], step)
    lacking = [end_of(rows, a) is None and end_of(others, b) is not None for a, b in pairs]
    text = earliest(ways, 0, lacking)
    if text is not None:
        return ("lacks", text)
    return excess_of_pairs(rows, others, pairs, ways)


def is_endless(one, other, thing):
    """Whether a thing is a tuple ("endless", ahead, ring, behind) for two machines."""
    demand_both(one, other)
    if not isinstance(thing, tuple) or len(thing) != 4 or thing[0] != "endless":
        return False
    if not all([is_text(one[0], text) for text in thing[1:]]):
        return False
    bits = ring_bits(one[1], thing[1], thing[2], thing[3])
    twin_bits = ring_bits(other[1], thing[1], thing[2], thing[3])
    return bits is not None and twin_bits is not None and bits > twin_bits


def kin(machine):
    """For each state of trimmed the least one with the same texts, and by how many bits more."""
    rows = trimmed(machine)[1]
    least = least_bits(rows)
    if least[0] is None:
        return ((0, 0),)
    firsts = first_alike(rows, least)
    return tuple([(first, least[state] - least[first]) for state, first in enumerate(firsts)])


def demand_both(one, other):
    """Raise an error for what are no two machines of one size."""
    demand_machine(one)
    demand_machine(other)
    if one[0] != other[0]:
        raise OtherSize()


def end_of(rows, state):
    """The end of a state, None where the machine has stopped."""
    return None if state is None else rows[state][0]


def stepped(rows, state, letter):
    """The bits and the state of a step, (0, None) where the machine has stopped or stops."""
    if state is None or rows[state][1][letter] is None:
        return (0, None)
    return rows[state][1][letter]


def stepped_pair(rows, others, pair, letter):
    """How many bits more the first machine takes for a letter, and the pair of next states."""
    more, state = stepped(rows, pair[0], letter)
    twin_more, twin = stepped(others, pair[1], letter)
    return (more - twin_more, (state, twin))


def explored(start, size, step):
    """The nodes that are come to from a start, and for each the ways (letter, node's index).

    A node is a pair of states, and perhaps the bits by which one machine leads
    there. Of one pair just the two leads that are met first are kept: if texts
    behind it part by a third one, they part by one of these two, and earlier.
    """
    nodes = [start]
    numbers = {start: 0}
    leads = {start[:2]: 1}
    ways = []
    while len(ways) < len(nodes):
        found = []
        for letter in range(size):
            node = step(nodes[len(ways)], letter)
            if node is None:
                continue
            if node not in numbers and leads.get(node[:2], 0) < MOST_LEADS:
                leads[node[:2]] = leads.get(node[:2], 0) + 1
                numbers[node] = len(nodes)
                nodes.append(node)
            if node in numbers:
                found.append((letter, numbers[node]))
        ways.append(found)
    return (nodes, ways)


def earliest(ways, start, goals):
    """The earliest text that leads from a start to a goal, or None."""
    texts = {start: ()}
    waiting = [start]
    at = 0
    while at < len(waiting):
        here = waiting[at]
        at += 1
        if goals[here]:
            return texts[here]
        for letter, after in ways[here]:
            if after not in texts:
                texts[after] = texts[here] + (letter,)
                waiting.append(after)
    return None


def is_parting(rows, others, node):
    """Whether a text that comes to a node and ends there parts two machines."""
    state, twin, lead = node
    end, twin_end = end_of(rows, state), end_of(others, twin)
    if end is None or twin_end is None:
        return end != twin_end
    return lead + end != twin_end


def excess_of_pairs(rows, others, pairs, ways):
    """The excess where one has all texts of other: of pairs of states and the ways of letters."""
    ends = [excess_of_ends(rows, others, pair) for pair in pairs]
    gains = [[(letter, after, stepped_pair(rows, others, pairs[k], letter)[0]) for letter, after in found]
             for k, found in enumerate(ways)]
    greatest, ring = climbed(gains, ends)
    if ring is not None:
        start, letters = ring
        ahead = earliest(ways, 0, [k == start for k in range(len(pairs))])
        return ("endless", ahead, letters, earliest(ways, start, [end is not None for end in ends]))
    # The texts of the greatest excess are those that lose nothing by any of their steps.
    tight = [[(letter, after) for letter, after, gain in found if gain + greatest[after] == greatest[k]]
             for k, found in enumerate(gains)]
    text = earliest(tight, 0, [end == greatest[k] for k, end in enumerate(ends)])
    return ("most", greatest[0], text)


def excess_of_ends(rows, others, pair):
    """How many bits more the first machine's end takes, None unless both end."""
    end, twin_end = end_of(rows, pair[0]), end_of(others, pair[1])
    return None if end is None or twin_end is None else end - twin_end


def climbed(gains, ends):
    """For each pair the greatest excess behind it; and None, or a ring that raises it endlessly."""
    greatest = list(ends)
    choices = [None] * len(ends)
    # If it still climbs after as many rounds as there are pairs, the choices lead round.
    while climb(gains, greatest, choices):
        ring = ring_of(choices)
        if ring is not None:
            return (greatest, ring)
    return (greatest, None)


def climb(gains, greatest, choices):
    """Raise what each pair tells by its steps, and keep the step. Tells whether one was raised."""
    is_raised = False
    for k, found in enumerate(gains):
        for letter, after, gain in found:
            if greatest[after] is None:
                continue
            if greatest[k] is None or gain + greatest[after] > greatest[k]:
                greatest[k] = gain + greatest[after]
                choices[k] = (letter, after)
                is_raised = True
    return is_raised


def ring_of(choices):
    """A pair from which the chosen steps lead round to it, and their letters, or None."""
    walks = [None] * len(choices)
    for walk in range(len(choices)):
        at = walk
        while walks[at] is None and choices[at] is not None:
            walks[at] = walk
            at = choices[at][1]
        # Who comes back to a pair of an earlier walk has found nothing new.
        if walks[at] == walk:
            return (at, letters_round(choices, at))
    return None


def letters_round(choices, start):
    """The letters of the chosen steps from a pair round to it."""
    letter, at = choices[start]
    letters = [letter]
    while at != start:
        letter, at = choices[at]
        letters.append(letter)
    return tuple(letters)


def led(rows, state, text):
    """The bits and the state to which a text leads, None where the machine stops."""
    bits = 0
    for letter in text:
        more, state = stepped(rows, state, letter)
        bits += more
    return (bits, state)


def ring_bits(rows, ahead, ring, behind):
    """The bits of a ring of letters if it leads round and the others to it and to an end, or None."""
    start = led(rows, 0, ahead)[1]
    bits, back = led(rows, start, ring)
    if back != start or end_of(rows, led(rows, back, behind)[1]) is None:
        return None
    return bits


def least_bits(rows):
    """For each state the fewest bits in which a text comes to an end, None where none does."""
    least = [end for end, steps in rows]
    for _ in rows:
        for state, (end, steps) in enumerate(rows):
            told = [step[0] + least[step[1]] for step in steps
                    if step is not None and least[step[1]] is not None]
            least[state] = min(told + ([] if end is None else [end]), default=None)
    return least


def first_alike(rows, least):
    """For each state the first one with the same texts, each but for a number of bits."""
    firsts = [0] * len(rows)
    number = 0
    # Each round parts states by texts of one letter more.
    while number < len(set(firsts)):
        number = len(set(firsts))
        signs = [sign_of(rows, least, firsts, state) for state in range(len(rows))]
        firsts = [signs.index(sign) for sign in signs]
    return firsts


def sign_of(rows, least, firsts, state):
    """What parts a state from others: by the end and each letter the bits beyond the fewest."""
    end, steps = rows[state]
    signs = [None if end is None else end - least[state]]
    for step in steps:
        if step is None:
            signs.append(None)
        else:
            signs.append((step[0] + least[step[1]] - least[state], firsts[step[1]]))
    return signs
