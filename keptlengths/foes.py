"""Lots of texts by which whatever packs too short is found out [12]."""

from heapq import heappop, heappush

from keptlengths.codes import shortest_alike
from keptlengths.compare import least_bits
from keptlengths.counting import demand_busy
from keptlengths.errors import Kept, TooMany
from keptlengths.machines import demand_machine, is_bits, is_text, length, trimmed
from keptlengths.sums import kept

MOST_TEXTS = 200
# What stands for the state of a text that is read to its end.
ENDED = -1


def proof_lot(machine):
    """The shortest texts, ascending, by which a machine is shown not to be kept."""
    if kept(machine):
        raise Kept()
    demand_busy(machine)
    return tuple(sorted([text for bits, text in shortest_texts(machine)]))


def play(machine, packer):
    """What finds out a packer of a machine that can't be kept."""
    lot = proof_lot(machine)
    words = []
    for text in lot:
        bits = packer(text)
        if not is_bits(bits):
            return ("none", text)
        if len(bits) > length(machine, text):
            return ("longer", text)
        words.append(bits)
    one, other = shortest_alike(words)
    return ("alike", tuple([lot[k] for k in one]), tuple([lot[k] for k in other]))


def is_verdict(machine, packer, thing):
    """Whether a thing is as play tells, and holds for a packer."""
    demand_machine(machine)
    if not isinstance(thing, tuple):
        return False
    if len(thing) == 2 and thing[0] == "none":
        return is_own(machine, thing[1]) and not is_bits(packer(thing[1]))
    if len(thing) == 2 and thing[0] == "longer":
        return is_own(machine, thing[1]) and is_longer(machine, packer, thing[1])
    if len(thing) == 3 and thing[0] == "alike":
        return are_packed_alike(machine, packer, thing[1], thing[2])
    return False


def shortest_texts(machine):
    """Pairs (length, text) by length and order, until the sum of 2 ** -length is above 1.

    The beginnings of texts wait by the fewest bits that a text takes which
    begins so, those of one number by their order. The first one is read on.
    """
    rows = trimmed(machine)[1]
    least = least_bits(rows)
    waiting = [(least[0], (), 0)]
    found = []
    # The sum so far is this, times 2 ** -last.
    worth, last = 0, 0
    while worth <= 1 << last:
        if len(found) == MOST_TEXTS:
            raise TooMany(MOST_TEXTS)
        bits, text = next_text(rows, least, waiting)
        found.append((bits, text))
        worth = (worth << (bits - last)) + 1
        last = bits
    return found


def next_text(rows, least, waiting):
    """The next one of all texts by length and order, with its length."""
    bits, text, state = heappop(waiting)
    while state != ENDED:
        end, steps = rows[state]
        # Of the bits that the text takes at least the rest from here is exchanged.
        taken = bits - least[state]
        if end is not None:
            heappush(waiting, (taken + end, text, ENDED))
        for letter, step in enumerate(steps):
            if step is not None:
                more, after = step
                heappush(waiting, (taken + more + least[after], text + (letter,), after))
        bits, text, state = heappop(waiting)
    return (bits, text)


def is_own(machine, thing):
    """Whether a thing is one of a machine's texts."""
    return is_text(machine[0], thing) and length(machine, thing) is not None


def is_longer(machine, packer, text):
    """Whether a packer tells more bits than a text's length."""
    bits = packer(text)
    return is_bits(bits) and len(bits) > length(machine, text)


def are_packed_alike(machine, packer, one, other):
    """Whether two things are unlike rows of a machine's texts, with the same bits by a packer."""
    for row in (one, other):
        if not isinstance(row, tuple) or not all([is_own(machine, text) for text in row]):
            return False
    if one == other:
        return False
    bits = row_bits(packer, one)
    return bits is not None and bits == row_bits(packer, other)


def row_bits(packer, row):
    """The bits of a row of texts by a packer, None if some are none."""
    told = [packer(text) for text in row]
    return "".join(told) if all([is_bits(bits) for bits in told]) else None
