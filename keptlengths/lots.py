"""Lots of machines, packed as well as the best of them at a price [15]."""

from keptlengths.errors import NoLot, NoNumber, NoText, TooMany
from keptlengths.machines import is_machine, is_text, length
from keptlengths.sums import halvings, lowest
from keptlengths.values import is_within
from keptlengths.words import demand_bits, first_words, word_at, written

MOST_MACHINES = 4
MOST_LETTERS = 12
MOST_NODES = 5000
# A count of texts is at most 8 ** 12, so that it has room in so many bits.
ROOM = 40


class LotTexts:
    """The texts of just so many letters of a lot, counted by their best.

    A node is what some letters make of the lot: for each machine its state and
    how many bits it has taken beyond the fewest, None where it has stopped.
    The counts from a node are packed into one integer, with ROOM bits for
    each number of bits that texts still take, so that they are added at once.
    """

    def __init__(self, lot, letters):
        self.steps, ends = read_all(lot, letters)
        self.counts = counted(self.steps, ends)
        self.worth = worth_of(self.counts[0][0])
        self.price = halvings(self.worth)

    def of_length(self, bits):
        """How many texts have this best and the price together."""
        return told_of(self.counts[0][0], bits - self.price)

    def behind(self, level, step, bits):
        """How many texts come by a step, the last of so many letters, to an end in so many bits."""
        more, node = step
        return told_of(self.counts[level][node], bits - more)


def is_lot(thing):
    """Whether a thing is a lot."""
    if not isinstance(thing, tuple) or not 1 <= len(thing) <= MOST_MACHINES:
        return False
    if not all([is_machine(machine) for machine in thing]):
        return False
    return all([machine[0] == thing[0][0] for machine in thing])


def best(lot, text):
    """The least length of a text by the machines of a lot, or None."""
    demand_lot(lot)
    if not is_text(lot[0][0], text):
        raise NoText()
    lengths = [length(machine, text) for machine in lot]
    return min([bits for bits in lengths if bits is not None], default=None)


def sum_best(lot, n):
    """The sum of 2 ** -best over all texts of n letters."""
    demand_lot(lot)
    demand_letters(n)
    return LotTexts(lot, n).worth


def price(lot, n):
    """The least number of bits more by which the sum of all texts of n letters is at most 1."""
    demand_lot(lot)
    demand_letters(n)
    return LotTexts(lot, n).price


def lot_word(lot, text):
    """The word of a text, of its best and the price together, among those of as many letters."""
    bits = best(lot, text)
    if bits is None or len(text) > MOST_LETTERS:
        raise NoText()
    texts = LotTexts(lot, len(text))
    whole = bits + texts.price
    return written(first_words(texts, whole)[whole] + place_in_lot(texts, text, bits), whole)


def read_lot_word(lot, n, bits):
    """The text of n letters whose word some bits begin with and how many were read, or None."""
    demand_lot(lot)
    demand_letters(n)
    demand_bits(bits)
    texts = LotTexts(lot, n)
    told = word_at(texts, bits, 0)
    if told is None:
        return None
    taken, place = told
    return (text_in_lot(texts, taken - texts.price, place), taken)


def demand_lot(thing):
    """Raise NoLot for what is no lot."""
    if not is_lot(thing):
        raise NoLot()


def demand_letters(thing):
    """Raise NoNumber for what is no number of letters of a lot's texts."""
    if not is_within(thing, 0, MOST_LETTERS):
        raise NoNumber()


def read_all(lot, letters):
    """For each number of letters the steps of its nodes, and the bits that the last nodes take."""
    nodes = [((0, 0),) * len(lot)]
    steps = []
    for _ in range(letters):
        nodes, found = next_nodes(lot, nodes)
        steps.append(found)
    return (steps, [end_of_node(lot, node) for node in nodes])


def next_nodes(lot, nodes):
    """The nodes behind one letter more, and for each node its steps (bits, next node's index)."""
    numbers = {}
    steps = []
    for node in nodes:
        found = []
        for letter in range(lot[0][0]):
            bits, after = stepped_node(lot, node, letter)
            numbers.setdefault(after, len(numbers))
            found.append((bits, numbers[after]))
        if len(numbers) > MOST_NODES:
            raise TooMany(MOST_NODES)
        steps.append(found)
    return (list(numbers), steps)


def stepped_node(lot, node, letter):
    """By how many bits the fewest grow by a letter, and the next node."""
    taken = []
    for (size, rows), told in zip(lot, node):
        step = None if told is None else rows[told[0]][1][letter]
        taken.append(None if step is None else (step[1], told[1] + step[0]))
    fewest = min([told[1] for told in taken if told is not None], default=0)
    after = [None if told is None else (told[0], told[1] - fewest) for told in taken]
    return (fewest, tuple(after))


def end_of_node(lot, node):
    """The fewest bits beyond the fewest that are taken by which a machine ends, or None."""
    ends = []
    for (size, rows), told in zip(lot, node):
        if told is not None and rows[told[0]][0] is not None:
            ends.append(told[1] + rows[told[0]][0])
    return min(ends, default=None)


def counted(steps, ends):
    """For each number of letters and node the packed counts of the texts that come from it."""
    counts = [[0 if end is None else 1 << (ROOM * end) for end in ends]]
    for found in reversed(steps):
        last = counts[-1]
        counts.append([sum([last[after] << (ROOM * bits) for bits, after in ways]) for ways in found])
    return counts[::-1]


def told_of(counts, bits):
    """The count for a number of bits out of packed ones."""
    return 0 if bits < 0 else (counts >> (ROOM * bits)) & ((1 << ROOM) - 1)


def worth_of(counts):
    """The sum of 2 ** -bits over all texts of packed counts."""
    most = counts.bit_length() // ROOM
    return lowest(sum([told_of(counts, bits) << (most - bits) for bits in range(most + 1)]), 1 << most)


def place_in_lot(texts, text, bits):
    """The index of a text among those of its best, which is given."""
    place = 0
    node = 0
    for level, letter in enumerate(text):
        steps = texts.steps[level][node]
        place += sum([texts.behind(level + 1, step, bits) for step in steps[:letter]])
        more, node = steps[letter]
        bits -= more
    return place


def text_in_lot(texts, bits, place):
    """The text with an index, which is below their number, among those of a best."""
    letters = []
    node = 0
    for level, steps in enumerate(texts.steps):
        for letter, step in enumerate(steps[node]):
            number = texts.behind(level + 1, step, bits)
            if place < number:
                break
            place -= number
        letters.append(letter)
        more, node = steps[node][letter]
        bits -= more
    return tuple(letters)
