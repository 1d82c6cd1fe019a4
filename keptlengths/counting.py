"""How many texts of a machine have a length, and their places among them [8]."""

from keptlengths.errors import Idle, NoNumber, TooMany
from keptlengths.machines import demand_machine, idle, owned_length, trimmed
from keptlengths.values import is_within

MOST_LENGTH = 4000


class Counts:
    """How many texts come to an end from each state of trimmed in just so many bits.

    The machine has no idle ring. The table grows as far as it is asked.
    """

    def __init__(self, machine):
        self.rows = trimmed(machine)[1]
        self.ways = [gathered(steps) for end, steps in self.rows]
        self.order = states_in_turn(self.rows)
        self.table = []

    def of_length(self, bits):
        """How many texts take just so many bits."""
        return self.behind((0, 0), bits)

    def behind(self, step, bits):
        """How many texts come by a step, or None, to an end in just so many bits together."""
        if step is None or step[0] > bits:
            return 0
        more, state = step
        while len(self.table) <= bits - more:
            self.grow()
        return self.table[bits - more][state]

    def grow(self):
        """Count for one bit more."""
        bits = len(self.table)
        counted = [0] * len(self.rows)
        # It is in the table already while it is filled, for the steps without bits.
        self.table.append(counted)
        for state in self.order:
            number = 1 if self.rows[state][0] == bits else 0
            for more, after, letters in self.ways[state]:
                if more <= bits:
                    number += letters * self.table[bits - more][after]
            counted[state] = number


def gathered(steps):
    """The unlike steps of a state: bits, next state, and by how many letters."""
    found = {}
    for step in steps:
        if step is not None:
            found[step] = found.get(step, 0) + 1
    return [(more, after, letters) for (more, after), letters in found.items()]


def states_in_turn(rows):
    """All states, each behind those to which its steps without bits lead."""
    waits = [[step[1] for step in steps if step is not None and step[0] == 0] for end, steps in rows]
    found = []
    # Without an idle ring there is always a state that waits for none.
    while len(found) < len(rows):
        for state, others in enumerate(waits):
            if state not in found and all([after in found for after in others]):
                found.append(state)
    return found


def demand_length(thing):
    """Raise NoNumber for what is no length that can be counted."""
    if not is_within(thing, 0, MOST_LENGTH):
        raise NoNumber()


def demand_short(bits):
    """Raise TooMany for a length that is too great to be counted."""
    if bits > MOST_LENGTH:
        raise TooMany(MOST_LENGTH)


def demand_busy(machine):
    """Raise Idle for a machine that has an idle ring."""
    if idle(machine) is not None:
        raise Idle()


def many(machine, length):
    """How many texts have a length."""
    demand_machine(machine)
    demand_length(length)
    demand_busy(machine)
    return Counts(machine).of_length(length)


def text_at(machine, length, place):
    """The text with an index among those of a length, in their order."""
    demand_machine(machine)
    demand_length(length)
    demand_busy(machine)
    counts = Counts(machine)
    if not is_within(place, 0, counts.of_length(length) - 1):
        raise NoNumber()
    return text_in(counts, length, place)


def place_of(machine, text):
    """The index of a text among those of its length, in their order."""
    bits = owned_length(machine, text)
    demand_busy(machine)
    demand_short(bits)
    return place_in(Counts(machine), text, bits)


def text_in(counts, bits, place):
    """The text with an index, which is below their number, among those of a length."""
    letters = []
    state = 0
    while True:
        end, steps = counts.rows[state]
        if end == bits:
            # The text that ends here comes ahead of all that go on.
            if place == 0:
                return tuple(letters)
            place -= 1
        for letter, step in enumerate(steps):
            number = counts.behind(step, bits)
            if place < number:
                break
            place -= number
        letters.append(letter)
        more, state = steps[letter]
        bits -= more


def place_in(counts, text, bits):
    """The index of a text among those of its length, which is given."""
    place = 0
    state = 0
    for letter in text:
        end, steps = counts.rows[state]
        if end == bits:
            place += 1
        place += sum([counts.behind(step, bits) for step in steps[:letter]])
        more, state = steps[letter]
        bits -= more
    return place
