"""The errors of the package, each a LengthError [5]."""


class LengthError(ValueError):
    """Any error of the package."""


class NoSize(LengthError):
    """A size is none, or is too great for what is asked."""


class NoMachine(LengthError):
    """A value is no machine."""


class NoText(LengthError):
    """A value is no text of the kind that is asked for."""


class NoNumber(LengthError):
    """A value is no number within the bounds that are asked for."""


class Idle(LengthError):
    """A machine has a ring of steps that take no bits."""


class NotKept(LengthError):
    """A machine's lengths can be kept by no code."""


class Kept(LengthError):
    """A machine's lengths can be kept by a code."""


class NoBits(LengthError):
    """A value is no string of 0 and 1."""


class NoTexts(LengthError):
    """A value is no tuple of texts."""


class NoCode(LengthError):
    """A value is no code."""


class NoShape(LengthError):
    """A value is no shape of a machine."""


class NoDeed(LengthError):
    """A value is no deed for a store as it stands."""


class Down(LengthError):
    """A store is down."""


class NotDown(LengthError):
    """A store is not down."""


class NoArea(LengthError):
    """A value is no area of a disk."""


class NoStand(LengthError):
    """No area of a disk stands."""


class NoThing(LengthError):
    """A value is no thing that can be written."""


class NoItems(LengthError):
    """A value is no item of a disk, or no tuple of such."""


class OtherSize(LengthError):
    """Two machines have unlike sizes."""


class NoEnd(LengthError):
    """An end would take more bits than it may."""


class NoLetters(LengthError):
    """A value is no tuple of all letters, each once."""


class NoMachines(LengthError):
    """A value is no tuple of machines that can be put together."""


class NoLot(LengthError):
    """A value is no lot of machines."""


class BadText(LengthError):
    """A text can't be read on from a place."""

    def __init__(self, place):
        self.place = place


class TooMany(LengthError):
    """There are more than the most that may be."""

    def __init__(self, most):
        self.most = most
