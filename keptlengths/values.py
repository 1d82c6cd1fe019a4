"""What single values are judged to be."""


def is_number(thing):
    """Whether a thing is an integer, and no flag."""
    return isinstance(thing, int) and not isinstance(thing, bool)


def is_within(thing, low, high):
    """Whether a thing is an integer from low to high."""
    return is_number(thing) and low <= thing <= high


def is_pair(thing):
    """Whether a thing is a tuple of two items."""
    return isinstance(thing, tuple) and len(thing) == 2
