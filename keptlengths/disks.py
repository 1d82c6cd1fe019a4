"""Disks whose items outlive falls amid writing [17]."""

from keptlengths.errors import NoArea, NoItems, NoNumber, NoStand
from keptlengths.texts import CHECKED_BY, checked, demand_signs, is_thing, sealed, unsealed
from keptlengths.values import is_number, is_pair, is_within

# Two of the thirty tuples within one another are those of the line and of the entry.
MOST_DEEP = 28


class Disk:
    """Two areas, each a text."""

    def __init__(self):
        self.areas = ["", ""]

    def __eq__(self, other):
        return isinstance(other, Disk) and self.areas == other.areas

    def area(self, k):
        """The text of an area."""
        demand_area(k)
        return self.areas[k]

    def append(self, k, text, most):
        """Write a text, or its first so many signs, at the end of an area. Returns how many."""
        demand_area(k)
        demand_signs(text)
        demand_most(most)
        written = text if most is None else text[:most]
        self.areas[k] += written
        return len(written)

    def clear(self, k):
        """Empty an area."""
        demand_area(k)
        self.areas[k] = ""

    def shorten(self, k, many):
        """Keep the first so many signs of an area."""
        demand_area(k)
        if not is_within(many, 0, len(self.areas[k])):
            raise NoNumber()
        self.areas[k] = self.areas[k][:many]

    def copy(self):
        """Another disk with the same areas."""
        twin = Disk()
        twin.areas = list(self.areas)
        return twin


class Counted:
    """The lines of a text that count: their entries, how many signs they have and their check."""

    def __init__(self, text):
        self.entries = []
        self.signs = 0
        self.check = 0
        while self.read_line(text):
            pass

    def read_line(self, text):
        """Count the next line of the text. Tells whether there is one that counts."""
        end = text.find("\n", self.signs)
        told = () if end < 0 else unsealed(text[self.signs:end])
        if told == () or not is_pair(told[0]) or told[0][0] != self.check:
            return False
        self.entries.append(told[0][1])
        self.check = check_behind(self.check, text[self.signs:end + 1], self.signs)
        self.signs = end + 1
        return True

    def generation(self):
        """The generation of the area, None if it does not stand."""
        if ("whole",) not in self.entries:
            return None
        first = self.entries[0]
        if not is_pair(first) or first[0] != "area" or not is_count(first[1]):
            return None
        return first[1]

    def things(self):
        """The list of the items of the area."""
        return [entry[1] for entry in self.entries if is_pair(entry) and entry[0] == "item"]


def lines(text):
    """The entries of the lines of a text that count."""
    demand_signs(text)
    return Counted(text).entries


def rest(text):
    """How many signs the lines of a text have that count."""
    demand_signs(text)
    return Counted(text).signs


def standing(disk):
    """The area that stands, of two the one of the greater generation, or None."""
    return standing_lines(disk)[0]


def opened(disk):
    """The items of the standing area. What a fall has left behind is struck."""
    k, counted = standing_lines(disk)
    if k is None:
        disk.clear(0)
        disk.clear(1)
        disk.append(0, lined([("area", 0), ("whole",)]), None)
        return []
    disk.shorten(k, counted.signs)
    disk.clear(1 - k)
    return counted.things()


def noted(disk, item, most):
    """Write an item's line, or its first so many signs, behind the standing area."""
    if not is_thing(item, MOST_DEEP):
        raise NoItems()
    demand_most(most)
    k, counted = demand_standing(disk)
    return disk.append(k, line_of(("item", item), counted.check), most)


def rewritten(disk, items, most):
    """Write the lines of items, or their first so many signs, to the area that does not stand."""
    if not isinstance(items, tuple) or not all([is_thing(item, MOST_DEEP) for item in items]):
        raise NoItems()
    demand_most(most)
    k, counted = demand_standing(disk)
    area = ("area", counted.generation() + 1)
    if not is_thing(area, MOST_DEEP):
        raise NoStand()
    disk.clear(1 - k)
    return disk.append(1 - k, lined([area] + [("item", item) for item in items] + [("whole",)]), most)


def demand_area(thing):
    """Raise NoArea for what is no area of a disk."""
    if not is_within(thing, 0, 1):
        raise NoArea()


def demand_most(thing):
    """Raise NoNumber for what is neither None nor how many signs are written at most."""
    if thing is not None and not is_count(thing):
        raise NoNumber()


def demand_standing(disk):
    """The area that stands and its lines. NoStand is raised if none does."""
    k, counted = standing_lines(disk)
    if k is None:
        raise NoStand()
    return (k, counted)


def is_count(thing):
    """Whether a thing is an integer from 0 on."""
    return is_number(thing) and thing >= 0


def standing_lines(disk):
    """The area that stands and its counted lines, twice None if none does."""
    told = [Counted(disk.area(k)) for k in (0, 1)]
    generations = [counted.generation() for counted in told]
    greatest = max([number for number in generations if number is not None], default=None)
    if greatest is None:
        return (None, None)
    k = generations.index(greatest)
    return (k, told[k])


def check_behind(check, text, ahead):
    """The check of a text and of so many signs ahead of it, whose own check is given."""
    return (check + checked(text, ahead)) % CHECKED_BY


def line_of(entry, check):
    """The line of an entry behind lines with a check."""
    return sealed((check, entry)) + "\n"


def lined(entries):
    """The lines of a list of entries, from the first one of an area on."""
    text = ""
    check = 0
    for entry in entries:
        line = line_of(entry, check)
        check = check_behind(check, line, len(text))
        text += line
    return text
