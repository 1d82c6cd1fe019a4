"""Things, their texts and checks worked out plainly, and values that are no things, for the tests."""

import random
import re

from keptlengths.disks import Disk
from keptlengths.errors import BadText, NoThing
from samples import mixed, nested

SIGNS = "".join(chr(k) for k in range(32, 127))


def plain_text(thing):
    """The text of a thing, written sign by sign."""
    if thing is None:
        return "."
    if isinstance(thing, int):
        return "%d" % thing
    if isinstance(thing, str):
        return "'" + re.sub("(['~])", r"~\1", thing) + "'"
    told = "("
    for k, item in enumerate(thing):
        told += "," * (k > 0) + plain_text(item)
    return told + ")"


def plain_check(text):
    told = 0
    for at, sign in enumerate(text):
        told += (at + 1) * (0 if sign == "\n" else SIGNS.index(sign) + 1)
    return told % 99991


def random_thing(source, deep):
    kind = source.randrange(7 if deep else 4)
    if kind == 0:
        return None
    if kind == 1:
        return source.choice((0, 1, -1, 7, 10, -10, 60, 10 ** 30 - 1, 1 - 10 ** 30, 10 ** 29))
    if kind < 4:
        return "".join(source.choice(SIGNS + "'~'~'~") for _ in range(source.randrange(6)))
    return tuple(random_thing(source, deep - 1) for _ in range(source.randrange(5)))


def things(many, seed):
    source = random.Random(seed)
    return [random_thing(source, source.randrange(6)) for _ in range(many)]


NO_THINGS = [
    True, False, 10 ** 30, -10 ** 30, 10 ** 4000, "a\n", "\t", "\x7f", "\u00e9", [], [1], {}, {"a": 1}, b"",
    b"a", 1.0, len, set(), NoThing(), BadText(3), Disk(), (True,), (1, [2]), ((), ("", (False,))),
    ("a", "b\n"), (10 ** 30,), nested(31), nested(30, [1]), nested(30, "\n"), mixed(30), mixed(1000),
    nested(5000),
]
