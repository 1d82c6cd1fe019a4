"""Codes of strangers: rows that are packed alike, and promises that are broken [11]."""

from heapq import heappop, heappush

from keptlengths.errors import NoCode
from keptlengths.machines import MOST_LETTERS, demand_machine, is_bits, is_text, length
from keptlengths.values import is_pair, is_within

MOST_PAIRS = 200
MOST_SIGNS = 400


def is_code(size, thing):
    """Whether a thing is a code of texts of a size."""
    # The size is judged even where there is no pair.
    is_text(size, ())
    if not isinstance(thing, tuple) or len(thing) > MOST_PAIRS:
        return False
    if not all([is_coded(size, pair) for pair in thing]):
        return False
    return all([one[0] < other[0] for one, other in zip(thing, thing[1:])])


def is_coded(size, thing):
    """Whether a thing is a pair of a text of a size and bits that are few enough."""
    if not is_pair(thing):
        return False
    text, bits = thing
    return is_text(size, text) and is_bits(bits) and len(bits) <= MOST_SIGNS


def alike(code):
    """Two unlike rows of indexes with the same bits, as short as can be, or None."""
    demand_code(code)
    return shortest_alike([bits for text, bits in code])


def is_alike(code, thing):
    """Whether a thing is two unlike rows of indexes with the same bits, as short as can be."""
    demand_code(code)
    if not is_pair(thing) or not all([is_row_of(code, row) for row in thing]):
        return False
    one, other = thing
    words = [bits for text, bits in code]
    shortest = None if one == other else shortest_alike(words)
    if shortest is None:
        return False
    # Rows may be far too long to be written out, so that their bits are counted first.
    fewest = signs_of(words, shortest[0])
    if signs_of(words, one) != fewest or signs_of(words, other) != fewest:
        return False
    return "".join([words[k] for k in one]) == "".join([words[k] for k in other])


def keeps(machine, code):
    """The index of the first pair that breaks a machine's promise, or None."""
    demand_machine(machine)
    demand_code(code)
    for at, (text, bits) in enumerate(code):
        promised = length(machine, text) if is_text(machine[0], text) else None
        if promised is None or len(bits) > promised:
            return at
    return None


def demand_code(thing):
    """Raise NoCode for what is no code of the greatest size."""
    if not is_code(MOST_LETTERS, thing):
        raise NoCode()


def is_row_of(code, thing):
    """Whether a thing is a tuple of indexes of a code."""
    return isinstance(thing, tuple) and all([is_within(at, 0, len(code) - 1) for at in thing])


def signs_of(words, row):
    """How many signs the words of a row have together."""
    return sum([len(words[k]) for k in row])


def shortest_alike(words):
    """Two unlike rows of words' indexes with the same bits, as short as can be, or None.

    Two rows that begin with unlike words are lengthened, always the one that
    lags, by words that agree with what the other one has ahead. What is ahead
    is a node: the end of a word, by the word's index and where it begins. The
    node to which the fewest bits lead comes next.
    """
    if "" in words:
        return ((), (words.index(""),))
    fewest = {}
    comes = {}
    waiting = []
    for first, node in beginnings(words):
        if node not in fewest:
            fewest[node] = len(words[node[0]])
            comes[node] = (None, first, False)
            heappush(waiting, (fewest[node], node))
    while waiting:
        bits, node = heappop(waiting)
        if node[1] == len(words[node[0]]):
            return rows_to(comes, node)
        for more, after, lead in lengthened(words, node):
            if after not in fewest or bits + more < fewest[after]:
                fewest[after] = bits + more
                comes[after] = (node,) + lead
                heappush(waiting, (bits + more, after))
    return None


def beginnings(words):
    """Each word that another one begins with, and the node of what is ahead of it."""
    found = []
    for at, whole in enumerate(words):
        for k, begun in enumerate(words):
            if k != at and whole.startswith(begun):
                found.append((k, (at, len(begun))))
    return found


def lengthened(words, node):
    """By how many bits each word lengthens two rows, the next node, and how it is come to.

    How it is come to: the word's index, and whether its row lags no more.
    """
    at, start = node
    rest = words[at][start:]
    found = []
    for k, added in enumerate(words):
        if rest.startswith(added):
            found.append((0, (at, start + len(added)), (k, False)))
        elif added.startswith(rest):
            found.append((len(added) - len(rest), (k, len(rest)), (k, True)))
    return found


def rows_to(comes, node):
    """The two rows by which a node is come to."""
    leads = []
    while node is not None:
        before, k, is_ahead = comes[node]
        leads.append((k, is_ahead, node[0]))
        node = before
    first, _, second = leads.pop()
    lagging, leading = [first], [second]
    for k, is_ahead, _ in reversed(leads):
        lagging.append(k)
        if is_ahead:
            lagging, leading = leading, lagging
    return (tuple(lagging), tuple(leading))
