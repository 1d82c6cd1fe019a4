"""Things as texts, and texts that are sealed by a check [18]."""

from keptlengths.errors import BadText, NoText, NoThing
from keptlengths.values import is_number

MOST_DIGITS = 30
MOST_DEEP = 30
CHECKED_BY = 99991
DIGITS = "0123456789"


def thing_text(thing):
    """The text of a thing."""
    if not is_thing(thing, MOST_DEEP):
        raise NoThing()
    return told(thing)


def read_thing(text):
    """The thing of a text."""
    if not isinstance(text, str):
        raise BadText(-1)
    thing, at = read_from(text, 0, MOST_DEEP)
    if at < len(text):
        raise BadText(at)
    return thing


def check(text):
    """The sum of all signs' numbers, each times its place, modulo 99991."""
    demand_signs(text)
    return checked(text, 0)


def sealed(thing):
    """The text of a thing with its check behind it."""
    text = thing_text(thing)
    return text + "#" + str(checked(text, 0))


def unsealed(text):
    """The tuple of the thing whose sealed text this is, or ()."""
    if not isinstance(text, str):
        return ()
    body, _, digits = text.rpartition("#")
    try:
        thing = read_thing(body)
    except BadText:
        return ()
    return (thing,) if digits == str(checked(body, 0)) else ()


def is_thing(thing, deep):
    """Whether a thing can be written, nested at most so deep."""
    if isinstance(thing, tuple):
        return deep > 0 and all([is_thing(item, deep - 1) for item in thing])
    if isinstance(thing, str):
        return all([is_plain(sign) for sign in thing])
    return thing is None or (is_number(thing) and abs(thing) < 10 ** 30)


def demand_signs(thing):
    """Raise NoText for what is no text of plain signs and line feeds."""
    if not isinstance(thing, str) or not all([is_plain(sign) or sign == "\n" for sign in thing]):
        raise NoText()


def is_plain(sign):
    """Whether a sign is one from the blank to ~."""
    return " " <= sign <= "~"


def checked(text, ahead):
    """The part of a check that a text of plain signs has where so many signs stand ahead."""
    # A blank has the number 1; a line feed has 0.
    worths = [at * (ord(sign) - 31) for at, sign in enumerate(text, ahead + 1) if sign != "\n"]
    return sum(worths) % CHECKED_BY


def told(thing):
    """The text of what can be written."""
    if isinstance(thing, tuple):
        return "(" + ",".join([told(item) for item in thing]) + ")"
    if isinstance(thing, str):
        return "'" + thing.replace("~", "~~").replace("'", "~'") + "'"
    return "." if thing is None else str(thing)


def sign_at(text, at):
    """The sign at a place. BadText is raised at the end of the text."""
    if at == len(text):
        raise BadText(at)
    return text[at]


def read_from(text, at, deep):
    """The thing that begins at a place, nested at most so deep, and the place behind it."""
    sign = sign_at(text, at)
    if sign == "(" and deep > 0:
        return read_tuple(text, at, deep)
    if sign == "'":
        return read_string(text, at)
    if sign == ".":
        return (None, at + 1)
    if sign == "-" or sign in DIGITS:
        return read_integer(text, at)
    raise BadText(at)


def read_tuple(text, at, deep):
    """The tuple that begins at a place, nested at most so deep, and the place behind it."""
    items = []
    at += 1
    while sign_at(text, at) != ")":
        if items:
            if text[at] != ",":
                raise BadText(at)
            at += 1
        item, at = read_from(text, at, deep - 1)
        items.append(item)
    return (tuple(items), at + 1)


def read_string(text, at):
    """The string that begins at a place, and the place behind it."""
    signs = []
    at += 1
    while sign_at(text, at) != "'":
        if text[at] == "~":
            at += 1
            if sign_at(text, at) not in ("'", "~"):
                raise BadText(at)
        elif not is_plain(text[at]):
            raise BadText(at)
        signs.append(text[at])
        at += 1
    return ("".join(signs), at + 1)


def read_integer(text, at):
    """The integer that begins at a place, and the place behind it."""
    first = at + 1 if text[at] == "-" else at
    # Behind a minus 0 begins no integer, and behind 0 no digit stands.
    if sign_at(text, first) not in DIGITS or text[at:first + 1] == "-0":
        raise BadText(first)
    end = first + 1
    while end < len(text) and text[end] in DIGITS:
        if text[first] == "0" or end - first == MOST_DIGITS:
            raise BadText(end)
        end += 1
    return (int(text[at:end]), end)
