"""Machines, wrong values and plain ways to work things out, for the tests."""

import itertools
import random
from fractions import Fraction

from keptlengths import errors


def nested(depth, inner=()):
    """Tuples within tuples, so many deep."""
    for _ in range(depth):
        inner = (inner,)
    return inner


def mixed(depth):
    """Tuples, lists and dicts within one another, so many deep."""
    inner = 0
    for k in range(depth):
        inner = ((inner,), [inner], {"a": inner})[k % 3]
    return inner


# Values of every kind that are no machine, no text and no integer from 0 on.
ODD = (
    None, True, False, -1, 10 ** 30 - 1, "", "a", "01\n", [], [1], {}, {0: 1}, [()],
    nested(30), mixed(30), ("a",), (None,), ([],), errors.NoSize(), errors.BadText([1]),
)

NONE2 = (None, None)
# One state: the empty text takes 3 bits, each letter 0 takes 1.
ONES = (2, ((3, ((1, 0), None)),))
# total is just 1: 1 / 2 + x / 4 + x / 4.
JUST = (2, ((1, ((2, 0), (2, 0))),))
# total is 1 / 2: 1 / 4 + x / 2.
BELOW = (2, ((2, ((2, 0), (2, 0))),))
# total is 2: 1 / 2 + x / 2 + x / 4.
ABOVE = (2, ((1, ((1, 0), (2, 0))),))
# x = 1 / 2 + x has no solution.
SINGULAR = (2, ((1, ((1, 0), (1, 0))),))
# x = 1 / 2 + 2 x has the solution -1 / 2.
NEGATIVE = (2, ((1, ((0, 0), (0, 0))),))
# No texts: no end is come to.
EMPTY = (2, ((None, ((0, 0), (1, 1))), (None, ((0, 1), None)), (5, ((0, 0), (0, 0)))))
# 0 - 1 - 3 and 4, where 2 leads to no end and nothing comes to 4.
KNOTTY = (3, (
    (None, ((1, 1), (0, 2), (4, 3))),
    (7, (None, (2, 3), (0, 4))),
    (None, ((0, 2), (1, 2), None)),
    (1, ((5, 0), (0, 2), None)),
    (None, (None, None, (0, 4))),
    (9, ((0, 5), (0, 3), (0, 1))),
))
KNOTTY_TRIMMED = (3, (
    (None, ((1, 1), None, (4, 2))),
    (7, (None, (2, 2), None)),
    (1, ((5, 0), None, None)),
))
NO_TEXTS = (2, ((None, NONE2),))


def chain(states, size, more, end):
    """States in a row, each letter leading to the next one, the last one with an end."""
    rows = [(None, ((more, k + 1),) * size) for k in range(states - 1)]
    return (size, tuple(rows) + ((end, (None,) * size),))


def ring(states, more, last, end):
    """States of one letter in a ring, the last step taking other bits than the others."""
    rows = [(end if k == 0 else None, ((more, k + 1),)) for k in range(states - 1)]
    first_end = end if states == 1 else None
    return (1, tuple(rows) + ((first_end, ((last, 0),)),))


def random_machine(source, states, size, mores, ends):
    """A machine with steps and ends out of these, made by a random source."""
    def step():
        more = source.choice(mores)
        return None if more is None else (more, source.randrange(states))
    rows = [(source.choice(ends), tuple(step() for _ in range(size))) for _ in range(states)]
    return (size, tuple(rows))


def random_machines(many, seed):
    """A list of machines of all sizes, some idle, some above 1, some without texts."""
    source = random.Random(seed)
    found = []
    for _ in range(many):
        states = source.choice((1, 2, 3, 4, 6, 9))
        size = source.choice((1, 2, 2, 3, 3, 5, 8))
        mores = source.choice((
            (None, None, 0, 1, 2), (None, 0, 1, 1, 2, 3), (1, 2, 3), (None, 2, 3, 4, 60),
            (None, None, 0), (0, 3, 5), (None, 3, 4),
        ))
        ends = source.choice(((None, 1), (None, None, 1, 2, 5), (1, 60), (None, None, None, 3)))
        found.append(random_machine(source, states, size, mores, ends))
    return found


def plain_length(machine, text):
    """The length of a text, state by state."""
    rows = machine[1]
    state, bits = 0, 0
    for letter in text:
        if rows[state][1][letter] is None:
            return None
        more, state = rows[state][1][letter]
        bits += more
    return None if rows[state][0] is None else bits + rows[state][0]


def texts_up_to(size, letters):
    """All texts of a size of at most so many letters."""
    for many in range(letters + 1):
        yield from itertools.product(range(size), repeat=many)


def texts_by_length(machine, most, room=20000):
    """For each length up to the most all texts, ascending; None if there are too many to list.

    The machine has no idle ring.
    """
    left = set(plain_left(machine))
    found = [[] for _ in range(most + 1)]
    waiting = [((), 0, 0)] if left else []
    while waiting:
        text, state, bits = waiting.pop()
        room -= 1
        if room < 0:
            return None
        end, steps = machine[1][state]
        if end is not None and bits + end <= most:
            found[bits + end].append(text)
        for letter, step in enumerate(steps):
            if step is not None and step[1] in left and bits + step[0] < most:
                waiting.append((text + (letter,), step[1], bits + step[0]))
    return [sorted(texts) for texts in found]


def listed(machine, room=20000):
    """As texts_by_length, as far as there are few enough to list."""
    for most in (14, 10, 7, 5, 4, 3, 2, 1):
        told = texts_by_length(machine, most, room)
        if told is not None:
            return told
    return [[]]


def plain_many(machine, most):
    """For each length up to the most how many texts have it, counted from state 0 on."""
    rows = machine[1]
    left = set(plain_left(machine))
    found = [0] * (most + 1)
    here = [{} for _ in range(most + 1)]
    if left:
        here[0][0] = 1
    for bits in range(most + 1):
        level = here[bits]
        # Letters without a bit are read one after the other: of texts of 0, 1, 2 .. such.
        while level:
            behind = {}
            for state, number in level.items():
                end, steps = rows[state]
                if end is not None and bits + end <= most:
                    found[bits + end] += number
                for step in steps:
                    if step is None or step[1] not in left or bits + step[0] > most:
                        continue
                    into = behind if step[0] == 0 else here[bits + step[0]]
                    into[step[1]] = into.get(step[1], 0) + number
            level = behind
        here[bits] = None
    return found


def dealt(by_length):
    """The words of texts that are listed by length, dealt one by one, each the first that is free."""
    taken = set()
    words = {}
    for bits, texts in enumerate(by_length):
        waiting = list(texts)
        for number in range(2 ** bits):
            if not waiting:
                break
            word = format(number, "0%db" % bits)
            if not any(word[:k] in taken for k in range(bits + 1)):
                words[waiting.pop(0)] = word
                taken.add(word)
        assert not waiting
    return words


def raised_by(machine, number):
    """The machine with so many bits more at each end, None if some end would be above 60."""
    size, rows = machine
    ends = [None if end is None else end + number for end, steps in rows]
    if any(end is not None and end > 60 for end in ends):
        return None
    return (size, tuple((end, steps) for end, (_end, steps) in zip(ends, rows)))


def told_error(function, *arguments):
    """The class of the error that a call raises and its fields, None if it raises none."""
    try:
        function(*arguments)
    except Exception as error:
        return (type(error), dict(vars(error)))
    return None


def reaching(machine):
    """For each state the set of states to which one comes from it, itself among them."""
    rows = machine[1]
    found = [{k} for k in range(len(rows))]
    for _ in rows:
        for k, (_end, steps) in enumerate(rows):
            for step in steps:
                if step is not None:
                    found[k] |= found[step[1]]
    return found


def plain_left(machine):
    """The states of trimmed, in order, by their old numbers; none if there are no texts."""
    rows = machine[1]
    found = reaching(machine)
    return [k for k in range(len(rows)) if k in found[0]
            and any(rows[other][0] is not None for other in found[k])]


def plain_worths(machine):
    """The one solution of the equations of a trimmed machine by fractions, or None.

    None also if there is no solution, or not just one, or one below 0.
    """
    rows = machine[1]
    n = len(rows)
    table = []
    for k, (end, steps) in enumerate(rows):
        row = [Fraction(0)] * (n + 1)
        row[k] += 1
        for step in steps:
            if step is not None:
                row[step[1]] -= Fraction(1, 2 ** step[0])
        row[n] = Fraction(0) if end is None else Fraction(1, 2 ** end)
        table.append(row)
    for at in range(n):
        other = next((k for k in range(at, n) if table[k][at] != 0), None)
        if other is None:
            return None
        table[at], table[other] = table[other], table[at]
        table[at] = [x / table[at][at] for x in table[at]]
        for k in range(n):
            if k != at:
                times = table[k][at]
                table[k] = [x - times * y for x, y in zip(table[k], table[at])]
    told = [row[n] for row in table]
    return told if min(told) >= 0 else None


def wrong_machines():
    """Things that are nearly machines, with a word on what is wrong with each."""
    step = (1, 0)
    rows = ((3, (step, None)),)
    good = (2, rows)
    wrong = {"a list": list(good), "too short": (2,), "too long": (2, rows, 0)}
    wrong["nested"] = (good,)
    for odd in ODD:
        wrong["machine %r" % (odd,)] = odd
        wrong["size %r" % (odd,)] = (odd, rows)
        wrong["rows %r" % (odd,)] = (2, odd)
        wrong["row %r" % (odd,)] = (2, rows + (odd,))
        wrong["steps %r" % (odd,)] = (2, ((3, odd),))
        wrong["state %r" % (odd,)] = (2, ((3, ((1, odd), None)), (3, (None, step))))
        if odd is not None:
            wrong["end %r" % (odd,)] = (2, ((odd, (step, None)),))
            wrong["step %r" % (odd,)] = (2, ((3, (step, odd)),))
        wrong["more %r" % (odd,)] = (2, ((3, ((odd, 0), None)),))
    wrong["flag for size 1"] = (True, ((3, (None,)),))
    wrong["size 0"] = (0, ((3, ()),))
    wrong["size 9"] = (9, ((3, (None,) * 9),))
    wrong["no rows"] = (2, ())
    wrong["31 rows"] = (2, rows * 31)
    wrong["rows in a list"] = (2, list(rows))
    wrong["row in a list"] = (2, (list(rows[0]),))
    wrong["row too short"] = (2, ((3,),))
    wrong["row too long"] = (2, ((3, (step, None), 0),))
    wrong["end 0"] = (2, ((0, (step, None)),))
    wrong["end 61"] = (2, ((61, (step, None)),))
    wrong["steps in a list"] = (2, ((3, [step, None]),))
    wrong["too few steps"] = (2, ((3, (step,)),))
    wrong["too many steps"] = (2, ((3, (step, step, step)),))
    wrong["step in a list"] = (2, ((3, ([1, 0], None)),))
    wrong["step too short"] = (2, ((3, ((1,), None)),))
    wrong["step too long"] = (2, ((3, ((1, 0, 0), None)),))
    wrong["more 61"] = (2, ((3, ((61, 0), None)),))
    wrong["state 1 of 1"] = (2, ((3, ((1, 1), None)),))
    wrong["wrong far behind"] = (8, ((3, (None,) * 8),) * 29 + ((3, (None,) * 7 + ((0, 30),)),))
    return wrong
