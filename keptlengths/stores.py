"""Stores of packed texts that outlive falls amid writing [19]."""

from keptlengths.counting import MOST_LENGTH
from keptlengths.disks import Disk, is_count, noted, opened, rewritten, standing_lines
from keptlengths.errors import Down, NoDeed, NoNumber, NotDown
from keptlengths.machines import is_machine, is_text, length
from keptlengths.sums import kept
from keptlengths.values import is_pair, is_within
from keptlengths.words import demand_kept, packed, unpacked

MOST_TEXTS = 40


class Store:
    """Texts that are kept packed, each by the machine that stood when it was put."""

    def __init__(self, machine):
        demand_kept(machine)
        self.own_disk = Disk()
        self.is_up = True
        opened(self.own_disk)
        noted(self.own_disk, ("machine", machine), None)

    def do(self, deed):
        """Note a deed's item."""
        item = self.item_of(deed)
        noted(self.own_disk, item, None)

    def cut(self, deed, most):
        """Write the first so many signs of a deed's line, and fall."""
        item = self.item_of(deed)
        if not is_count(most):
            raise NoNumber()
        noted(self.own_disk, item, most)
        self.is_up = False

    def fall(self):
        """Go down."""
        self.demand_up()
        self.is_up = False

    def compact(self, most):
        """Rewrite the disk with all texts of a machine put together; cut anywhere, and fall."""
        self.demand_up()
        rewritten(self.own_disk, compacted(self.stretches()), most)
        self.is_up = most is None

    def rise(self):
        """Come up as the disk tells."""
        if self.is_up:
            raise NotDown()
        opened(self.own_disk)
        self.is_up = True

    def texts(self):
        """The list of all texts, in order."""
        found = []
        for machine, bits, many in self.stretches():
            found.extend(list(unpacked(machine, bits)[0]))
        return found

    def text(self, k):
        """The text at an index."""
        found = self.texts()
        if not is_within(k, 0, len(found) - 1):
            raise NoNumber()
        return found[k]

    def machine(self):
        """The machine by which texts are packed from here on."""
        return self.stretches()[-1][0]

    def bits(self):
        """How many bits all texts take."""
        return sum([len(bits) for machine, bits, many in self.stretches()])

    def up(self):
        """Whether the store is up."""
        return self.is_up

    def disk(self):
        """A copy of the disk."""
        return self.own_disk.copy()

    def copy(self):
        """Another store that goes on by itself."""
        twin = Store(self.machine())
        twin.own_disk = self.disk()
        twin.is_up = self.is_up
        return twin

    def stretches(self):
        """For each machine item on the disk: the machine, the bits of all texts behind it, how many."""
        found = []
        for item in standing_lines(self.own_disk)[1].things():
            if item[0] == "machine":
                found.append((item[1], "", 0))
            else:
                machine, bits, many = found[-1]
                found[-1] = (machine, bits + item[1], many + item[2])
        return found

    def demand_up(self):
        """Raise Down if the store is down."""
        if not self.is_up:
            raise Down()

    def item_of(self, thing):
        """The item of a deed. Down is raised if the store is down, NoDeed for what is no deed."""
        self.demand_up()
        machine = self.machine()
        if not is_deed_by(machine, thing):
            raise NoDeed()
        word, told = thing
        if word == "change":
            return ("machine", told)
        return ("texts", packed(machine, told), len(told))


def is_deed(store, thing):
    """Whether a thing is a deed for a store as it stands."""
    return is_deed_by(store.machine(), thing)


def is_deed_by(machine, thing):
    """Whether a thing is a deed for a store whose texts are packed by a machine."""
    if not is_pair(thing):
        return False
    word, told = thing
    if word == "put":
        return are_put(machine, told)
    return word == "change" and is_machine(told) and told[0] == machine[0] and kept(told)


def are_put(machine, thing):
    """Whether a thing is a tuple of texts that may be put together."""
    if not isinstance(thing, tuple) or not 1 <= len(thing) <= MOST_TEXTS:
        return False
    if not all([is_text(machine[0], text) for text in thing]):
        return False
    return all([is_within(length(machine, text), 0, MOST_LENGTH) for text in thing])


def compacted(stretches):
    """The items of stretches, those without texts left out, but the last one's machine."""
    last = len(stretches) - 1
    items = []
    for at, (machine, bits, many) in enumerate(stretches):
        if many > 0 or at == last:
            items.append(("machine", machine))
        if many > 0:
            items.append(("texts", bits, many))
    return tuple(items)
