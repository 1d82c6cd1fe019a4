"""Point [13]: machines compared, what is endless, and the kin of states."""

import random
import unittest

from keptlengths.compare import excess, is_endless, kin, parting
from keptlengths.errors import NoMachine, OtherSize
from keptlengths.machines import is_text, length, trimmed
from keptlengths.sums import kept
from samples import (
    ABOVE, BELOW, EMPTY, JUST, KNOTTY, KNOTTY_TRIMMED, NEGATIVE, NO_TEXTS, NONE2, ODD, ONES,
    SINGULAR, chain, mixed, nested, plain_length, random_machine, random_machines, ring,
    texts_up_to, told_error, wrong_machines,
)


def small_machine(source, states, size, full):
    """A random machine of so many states, without None if it is to be full."""
    mores, ends = ((0, 1, 2, 3), (1, 2, 3)) if full else ((None, 0, 1, 2), (None, 1, 2))
    return random_machine(source, states, size, mores, ends)


def small_pairs(many, seed):
    """Pairs of machines with few states: unlike ones, and ones that are changed in a place."""
    source = random.Random(seed)
    for k in range(many):
        size = source.choice((1, 2, 2, 2, 3))
        one = small_machine(source, source.choice((1, 2, 3)), size, source.random() < 0.5)
        other = small_machine(source, source.choice((1, 2, 3)), size, source.random() < 0.5)
        if k % 3 == 1:
            other = changed(source, one)
        elif k % 3 == 2:
            other = changed(source, shuffled(source, one))
        yield (one, other) if source.random() < 0.5 else (other, one)


def changed(source, machine):
    """The machine with another end or step at a place."""
    size, rows = machine
    at = source.randrange(len(rows))
    end, steps = rows[at]
    letter = source.randrange(size)
    step = source.choice((None, (source.randrange(3), source.randrange(len(rows)))))
    if source.random() < 0.5:
        row = (source.choice((None, 1, 2)), steps)
    else:
        row = (end, steps[:letter] + (step,) + steps[letter + 1:])
    return (size, rows[:at] + (row,) + rows[at + 1:])


def shuffled(source, machine):
    """The machine with its states but 0 in another order."""
    size, rows = machine
    order = [0] + source.sample(range(1, len(rows)), len(rows) - 1)
    number = {state: k for k, state in enumerate(order)}
    return (size, tuple(
        (rows[state][0], tuple(None if step is None else (step[0], number[step[1]])
                               for step in rows[state][1]))
        for state in order))


def doubled(source, machine, shift):
    """A machine with the same texts and lengths, each state standing twice.

    State k and state k + n are alike, but the second one takes shift bits less
    till the end, which the steps to it take more.
    """
    size, rows = machine
    n = len(rows)

    def step_of(step, own):
        if step is None:
            return None
        twin = source.random() < 0.5
        return (step[0] + (shift if twin else 0) - own, step[1] + (n if twin else 0))
    told = []
    for own in (0, shift):
        for end, steps in rows:
            told.append((None if end is None else end - own,
                         tuple(step_of(step, own) for step in steps)))
    return (size, tuple(told))


def full_ring(states, more, last):
    """A ring of states of one letter, each with an end, the last step taking other bits."""
    return (1, tuple((5, ((last if k + 1 == states else more, (k + 1) % states),))
                     for k in range(states)))


def from_state(machine, state):
    """The machine that begins at a state."""
    size, rows = machine
    order = [state] + [k for k in range(len(rows)) if k != state]
    number = {k: at for at, k in enumerate(order)}
    return (size, tuple((rows[k][0], tuple(None if step is None else (step[0], number[step[1]])
                                           for step in rows[k][1])) for k in order))


def plain_parting(one, other, letters):
    for text in texts_up_to(one[0], letters):
        if plain_length(one, text) != plain_length(other, text):
            return text
    return None


def plain_excess(one, other, letters):
    """What excess tells if texts of at most so many letters are all; "most" may be endless."""
    greatest = None
    found = False
    for text in texts_up_to(one[0], letters):
        own, twin = plain_length(one, text), plain_length(other, text)
        if twin is None:
            continue
        found = True
        if own is None:
            return ("lacks", text)
        if greatest is None or own - twin > greatest[1]:
            greatest = ("most", own - twin, text)
    return greatest if found else ("none",)


def plain_walk(machine, state, text):
    """The bits and the state to which a text leads from a state, None if it stops."""
    bits = 0
    for letter in text:
        step = machine[1][state][1][letter]
        if step is None:
            return None
        bits, state = bits + step[0], step[1]
    return (bits, state)


def plain_endless(one, other, ahead, ring, behind):
    """Whether ring leads both round, more bits by one, and behind leads both to ends."""
    bits = []
    for machine in (one, other):
        first = plain_walk(machine, 0, ahead)
        if first is None:
            return False
        round_ = plain_walk(machine, first[1], ring)
        if round_ is None or round_[1] != first[1]:
            return False
        last = plain_walk(machine, first[1], behind)
        if last is None or machine[1][last[1]][0] is None:
            return False
        bits.append(round_[0])
    return bits[0] > bits[1]


def plain_kin(rows, letters):
    """The kin of the states of a trimmed machine, by all texts of at most so many letters."""
    lengths = [[plain_length(from_state(rows, state), text) for text in texts_up_to(rows[0], letters)]
               for state in range(len(rows[1]))]
    told = []
    for own in lengths:
        for least, other in enumerate(lengths):
            shifts = {a - b for a, b in zip(own, other) if a is not None and b is not None}
            same = all((a is None) == (b is None) for a, b in zip(own, other))
            if same and len(shifts) <= 1:
                told.append((least, min(shifts, default=0)))
                break
    return tuple(told)


def greatest_up_to(one, other, letters):
    """The greatest excess over texts of other of at most so many letters, state by state."""
    level = {(0, 0): 0}
    greatest = None
    for _ in range(letters + 1):
        behind = {}
        for (a, b), bits in level.items():
            end, twin_end = one[1][a][0], other[1][b][0]
            if end is not None and twin_end is not None:
                told = bits + end - twin_end
                greatest = told if greatest is None else max(greatest, told)
            for step, twin in zip(one[1][a][1], other[1][b][1]):
                if step is not None and twin is not None:
                    at = (step[1], twin[1])
                    told = bits + step[0] - twin[0]
                    behind[at] = max(told, behind.get(at, told))
        level = behind
    return greatest


class Parting(unittest.TestCase):
    def test_by_hand(self):
        self.assertIsNone(parting(ONES, ONES))
        self.assertEqual(parting(ONES, JUST), ())
        self.assertEqual(parting(JUST, ABOVE), (0,))
        self.assertIsNone(parting(KNOTTY, KNOTTY_TRIMMED))
        self.assertIsNone(parting(EMPTY, NO_TEXTS))
        self.assertEqual(parting(NO_TEXTS, ONES), ())
        self.assertEqual(parting(ONES, (2, ((3, ((1, 0), (1, 0))),))), (1,))
        # What goes nowhere is no text.
        self.assertIsNone(parting(ONES, (2, ((3, ((1, 0), (1, 1))), (None, ((0, 1), (0, 1)))))))

    def test_the_fewest_letters_come_first(self):
        one = (2, ((1, ((1, 1), (1, 2))), (1, ((1, 3), None)), (2, NONE2), (2, NONE2)))
        other = (2, ((1, ((1, 1), (1, 2))), (1, ((1, 3), None)), (3, NONE2), (3, NONE2)))
        self.assertEqual(parting(one, other), (1,))

    def test_another_length_by_other_steps(self):
        # The lengths of all texts but those through state 2 are the same, otherwise dealt.
        one = (2, ((None, ((0, 1), (5, 2))), (7, ((1, 1), None)), (1, NONE2)))
        other = (2, ((None, ((3, 1), (5, 2))), (4, ((1, 1), None)), (1, NONE2)))
        self.assertIsNone(parting(one, other))
        other = (2, ((None, ((3, 1), (5, 2))), (4, ((2, 1), None)), (1, NONE2)))
        self.assertEqual(parting(one, other), (0, 0))

    def test_two_ways_to_one_pair(self):
        # Both lead to the ends by another number of bits, so that just one of both ways is right.
        one = (2, ((None, ((1, 1), (2, 1))), (None, (None, (0, 2))), (4, NONE2)))
        other = (2, ((None, ((1, 1), (3, 1))), (None, (None, (0, 2))), (4, NONE2)))
        self.assertEqual(parting(one, other), (1, 1))
        other = (2, ((None, ((1, 1), (3, 1))), (None, (None, (0, 2))), (3, NONE2)))
        self.assertEqual(parting(one, other), (0, 1))

    def test_among_all_texts_of_few_letters(self):
        found = {True: 0, False: 0}
        for one, other in small_pairs(700, 31):
            with self.subTest(one=one, other=other):
                # Texts of so many letters part any two machines of three states that part.
                letters = 8 if one[0] < 3 else 7
                told = parting(one, other)
                self.assertEqual(told, plain_parting(one, other, letters))
                self.assertEqual(parting(other, one), told)
                found[told is None] += 1
        self.assertGreater(min(found.values()), 50)

    def test_the_same_machine_otherwise_written(self):
        source = random.Random(32)
        for machine in random_machines(120, 33):
            self.assertIsNone(parting(machine, machine))
            self.assertIsNone(parting(machine, trimmed(machine)))
            self.assertIsNone(parting(shuffled(source, machine), machine))
        for _ in range(60):
            machine = random_machine(source, source.choice((2, 7, 15)), source.choice((1, 2, 8)),
                                     (None, 3, 4, 5), (None, 4, 5))
            self.assertIsNone(parting(machine, doubled(source, machine, 3)))

    def test_one_letter_alone(self):
        source = random.Random(34)
        for _ in range(60):
            one, other = [
                (1, tuple((source.choice((None, 2, 2)), ((1, min(k + 1, states) % states),))
                          for k in range(states)))
                for states in (source.randrange(1, 7), source.randrange(1, 7))]
            self.assertEqual(parting(one, other), plain_parting(one, other, 40))

    def test_thirty_states(self):
        # Just behind 29 letters, or 58, they part.
        one, other = chain(30, 8, 3, 7), chain(30, 8, 3, 8)
        self.assertEqual(parting(one, other), (0,) * 29)
        self.assertEqual(parting(chain(30, 2, 1, 1), chain(29, 2, 1, 1)), (0,) * 28)
        self.assertEqual(parting(ring(30, 1, 1, 9), ring(29, 1, 1, 9)), (0,) * 29)
        self.assertIsNone(parting(ring(30, 1, 1, 9), ring(30, 1, 1, 9)))
        self.assertIsNone(parting(ring(1, 1, 1, 9), (1, ((9, ((1, 1),)), (9, ((1, 0),))))))
        # The 30 letters 1 side by side come last among their like.
        rows = [(1, ((1, 0), (1, min(k + 1, 29)))) for k in range(30)]
        self.assertIsNone(parting((2, tuple(rows)), (2, ((1, ((1, 0), (1, 0))),))))
        rows[29] = (2, rows[29][1])
        self.assertEqual(parting((2, tuple(rows)), (2, ((1, ((1, 0), (1, 0))),))), (1,) * 29)
        rows[29] = (1, ((1, 0), (2, 29)))
        self.assertEqual(parting((2, tuple(rows)), (2, ((1, ((1, 0), (1, 0))),))), (1,) * 30)
        source = random.Random(35)
        for size in (2, 5, 8):
            machine = random_machine(source, 30, size, (None, 1, 2, 3), (None, 4, 5))
            self.assertIsNone(parting(machine, shuffled(source, machine)))
            for _ in range(5):
                other = changed(source, shuffled(source, machine))
                told = parting(machine, other)
                if told is not None:
                    self.assertNotEqual(length(machine, told), length(other, told))


class Excess(unittest.TestCase):
    def test_by_hand(self):
        self.assertEqual(excess(ONES, NO_TEXTS), ("none",))
        self.assertEqual(excess(NO_TEXTS, EMPTY), ("none",))
        self.assertEqual(excess(NO_TEXTS, ONES), ("lacks", ()))
        self.assertEqual(excess(ONES, JUST), ("lacks", (1,)))
        self.assertEqual(excess(JUST, JUST), ("most", 0, ()))
        self.assertEqual(excess(BELOW, JUST), ("most", 1, ()))
        self.assertEqual(excess(JUST, BELOW), ("most", -1, ()))
        self.assertEqual(excess(ABOVE, JUST), ("most", 0, ()))
        told = excess(JUST, ABOVE)
        self.assertEqual(told[0], "endless")
        self.assertIs(is_endless(JUST, ABOVE, told), True)
        self.assertIs(is_endless(ABOVE, JUST, told), False)

    def test_the_earliest_of_the_greatest_excess(self):
        # () is even, (0,) 1 bit more, (1,) 2, (0, 0) 1 and (0, 1) 2.
        one = (2, ((1, ((1, 1), (2, 2))), (1, ((0, 1), (1, 2))), (1, NONE2)))
        other = (2, ((1, ((0, 1), (0, 2))), (1, ((0, 1), (0, 2))), (1, NONE2)))
        self.assertEqual(excess(one, other), ("most", 2, (1,)))
        self.assertEqual(excess(other, one), ("most", 0, ()))
        # A ring that takes as many bits by both doesn't raise it.
        one = (2, ((1, ((3, 0), (2, 1))), (5, ((1, 1), (0, 1)))))
        other = (2, ((2, ((3, 0), (2, 1))), (1, ((1, 1), (1, 1)))))
        self.assertEqual(excess(one, other), ("most", 4, (1,)))
        self.assertEqual(excess(other, one)[0], "endless")

    def test_lacks_is_told_ahead_of_endless(self):
        one = (2, ((1, ((5, 0), (1, 1))), (None, NONE2)))
        other = (2, ((1, ((1, 0), (1, 1))), (1, NONE2)))
        self.assertEqual(excess(one, other), ("lacks", (1,)))
        self.assertIs(is_endless(one, other, ("endless", (), (0,), ())), True)

    def test_texts_of_one_alone_do_not_matter(self):
        one = (2, ((1, ((5, 0), (9, 0))),))
        other = (2, ((3, (None, None)),))
        self.assertEqual(excess(one, other), ("most", -2, ()))
        self.assertEqual(excess(other, one), ("lacks", (0,)))
        # The ring is endless, but no text of other goes through it.
        other = (2, ((3, ((5, 0), (1, 1))), (None, ((0, 1), (0, 1)))))
        self.assertEqual(excess(one, other), ("most", -2, ()))

    def test_among_all_texts_of_few_letters(self):
        found = {}
        for one, other in small_pairs(900, 41):
            with self.subTest(one=one, other=other):
                told = excess(one, other)
                found[told[0]] = found.get(told[0], 0) + 1
                plain = plain_excess(one, other, 9 if one[0] < 3 else 6)
                if told[0] == "endless":
                    self.assertEqual(plain[0], "most")
                    self.assertEqual(len(told), 4)
                    self.assertTrue(all(is_text(one[0], text) for text in told[1:]))
                    self.assertTrue(plain_endless(one, other, *told[1:]))
                    self.assertIs(is_endless(one, other, told), True)
                else:
                    self.assertEqual(told, plain)
        self.assertGreater(min(found[name] for name in ("none", "lacks", "endless", "most")), 30)

    def test_a_ring_raises_it_step_by_step(self):
        for one, other in small_pairs(200, 42):
            told = excess(one, other)
            if told[0] == "endless":
                ahead, round_, behind = told[1:]
                bits = [length(one, ahead + round_ * k + behind)
                        - length(other, ahead + round_ * k + behind) for k in range(6)]
                self.assertEqual(bits, list(range(bits[0], bits[5] + 1, bits[1] - bits[0])))
                self.assertGreater(bits[1], bits[0])

    def test_ten_states(self):
        source = random.Random(43)
        found = {"most": 0, "endless": 0}
        for k in range(100):
            one = random_machine(source, 10, 2, (0, 1, 2), (None, 1, 9))
            other = random_machine(source, 10, 2, (1, 2, 2, 3) if k % 2 else (2, 3), (1, 7))
            other = (2, tuple((end if one_end else None, steps) for (end, steps), (one_end, _)
                              in zip(one[1], one[1]))) if k % 3 == 0 else other
            one = (2, tuple((end or 5, steps) for end, steps in one[1]))
            told = excess(one, other)
            found[told[0]] += 1
            greatest = greatest_up_to(one, other, 100)
            if told[0] == "most":
                self.assertEqual(greatest_up_to(one, other, 300), greatest)
                self.assertEqual(told[1], greatest)
                self.assertEqual(length(one, told[2]) - length(other, told[2]), greatest)
                fewer = greatest_up_to(one, other, len(told[2]) - 1) if told[2] else None
                self.assertTrue(fewer is None or fewer < greatest)
            else:
                self.assertTrue(plain_endless(one, other, *told[1:]))
        self.assertGreater(min(found.values()), 10)

    def test_thirty_states(self):
        source = random.Random(44)
        for size in (1, 2, 8):
            one = random_machine(source, 30, size, (2, 3), (1, 9))
            other = random_machine(source, 30, size, (3, 60), (1, 9))
            told = excess(one, other)
            self.assertEqual(told[0], "most")
            self.assertEqual(told[1], greatest_up_to(one, other, 60))
            self.assertEqual(length(one, told[2]) - length(other, told[2]), told[1])
            told = excess(other, one)
            self.assertTrue(plain_endless(other, one, *told[1:]))
            self.assertIs(is_endless(other, one, told), True)

    def test_rings_that_meet_late(self):
        # By 30 and by 29 letters round: just where both steps back meet there is a bit more.
        one, other = full_ring(30, 1, 2), full_ring(29, 1, 2)
        told = excess(other, one)
        self.assertEqual(told[0], "endless")
        self.assertTrue(plain_endless(other, one, *told[1:]))
        self.assertEqual(len(told[2]), 870)
        self.assertEqual(excess(one, other), ("most", 0, ()))
        # 29 rounds of 30 and 30 rounds of 29 take as many bits.
        one, other = full_ring(30, 0, 30), full_ring(29, 0, 29)
        self.assertEqual(excess(one, other), ("most", 28, (0,) * 840))
        self.assertEqual(greatest_up_to(one, other, 2000), 28)
        self.assertEqual(excess(other, one), ("most", 29, (0,) * 29))
        # One bit more in each round of 30.
        rows = list(one[1])
        rows[29] = (5, ((31, 0),))
        told = excess((1, tuple(rows)), other)
        self.assertEqual(told[0], "endless")
        self.assertEqual(len(told[2]), 870)
        self.assertTrue(plain_endless((1, tuple(rows)), other, *told[1:]))

    def test_what_can_be_kept_by_it(self):
        found = 0
        for one, other in small_pairs(500, 45):
            told = excess(one, other)
            if told[0] == "most" and told[1] <= 0 and kept(one):
                self.assertIs(kept(other), True)
                found += 1
        self.assertGreater(found, 20)


class IsEndless(unittest.TestCase):
    ONE = (2, ((None, ((3, 1), (1, 0))), (2, ((2, 1), (1, 2))), (1, ((0, 0), None))))
    OTHER = (2, ((None, ((1, 1), (1, 0))), (2, ((1, 1), (3, 0))), (1, NONE2)))

    def test_by_hand(self):
        for thing, told in (
                (("endless", (0,), (0,), ()), True),
                (("endless", (0,), (0, 0, 0), (0,)), True),
                (("endless", (1, 1, 0, 0), (0,) * 50, (0,) * 7), True),
                (("endless", (0,), (0,) * 4000, ()), True),
                # as many bits
                (("endless", (), (1,), (0,)), False),
                (("endless", (0,), (), ()), False),
                # no end behind
                (("endless", (0,), (0,), (1,)), False),
                (("endless", (0,), (0,), (1, 1)), False),
                (("endless", (), (0,), (0,)), False),
                # not back, of both or of one
                (("endless", (), (0, 1), (0,)), False),
                (("endless", (0,), (1,), ()), False),
                (("endless", (0,), (1, 0), ()), False),
                (("endless", (0, 1), (1,), (0,)), False),
        ):
            with self.subTest(thing=thing):
                self.assertIs(is_endless(self.ONE, self.OTHER, thing), told)
                self.assertIs(is_endless(self.OTHER, self.ONE, thing), False)
                if told:
                    self.assertTrue(plain_endless(self.ONE, self.OTHER, *thing[1:]))

    def test_wrong(self):
        good = ("endless", (0,), (0,), ())
        self.assertIs(is_endless(self.ONE, self.OTHER, good), True)
        for odd in ODD + (mixed(30), nested(30), "endless", ("endless",), ("most", 1, ())):
            with self.subTest(odd=odd):
                self.assertIs(is_endless(self.ONE, self.OTHER, odd), False)
                self.assertIs(is_endless(self.ONE, self.OTHER, (odd,) + good[1:]),
                              odd == "endless")
                for at in (1, 2, 3):
                    if odd != ():
                        changed = good[:at] + (odd,) + good[at + 1:]
                        self.assertIs(is_endless(self.ONE, self.OTHER, changed), False)
        for thing in (list(good), good + ((),), good[:3], good[1:], ("Endless",) + good[1:],
                      ("endless", [0], (0,), ()), ("endless", (0,), [0], ()),
                      ("endless", (0,), (0,), []), ("endless", (False,), (0,), ()),
                      ("endless", (0,), (False,), ()), ("endless", (0,), (0,), (False,)),
                      ("endless", (2,), (0,), ()), ("endless", (0,), (2,), ()),
                      ("endless", (0,), (0,), (2,)), ("endless", (-1,), (0,), ()),
                      ("endless", (0,), (0, -1), ()), ("endless", "0", "0", ""),
                      ("endless", (0,), (None,), ())):
            with self.subTest(thing=thing):
                self.assertIs(is_endless(self.ONE, self.OTHER, thing), False)

    def test_among_texts_of_few_letters(self):
        found = {True: 0, False: 0}
        for one, other in small_pairs(60, 46):
            if one[0] > 2:
                continue
            texts = list(texts_up_to(one[0], 2))
            for ahead in texts:
                for round_ in texts_up_to(one[0], 3):
                    for behind in texts[:4]:
                        told = is_endless(one, other, ("endless", ahead, round_, behind))
                        self.assertIs(told, plain_endless(one, other, ahead, round_, behind))
                        found[told] += 1
        self.assertGreater(min(found.values()), 500)

    def test_many_letters(self):
        one, other = ring(30, 1, 1, 1), ring(30, 1, 0, 1)
        for ahead, round_, behind, told in (
                (0, 30, 0, True), (5, 3000, 25, True), (29, 30, 1, True), (4000, 30, 20, True),
                (0, 31, 0, False), (0, 30, 1, False), (1, 30, 0, False), (0, 0, 0, False)):
            thing = ("endless", (0,) * ahead, (0,) * round_, (0,) * behind)
            self.assertIs(is_endless(one, other, thing), told)
            self.assertIs(is_endless(other, one, thing), False)


class Kin(unittest.TestCase):
    def test_by_hand(self):
        self.assertEqual(kin(ONES), ((0, 0),))
        self.assertEqual(kin(NO_TEXTS), ((0, 0),))
        self.assertEqual(kin(EMPTY), ((0, 0),))
        self.assertEqual(kin(KNOTTY), ((0, 0), (1, 0), (2, 0)))
        # Each state has just the empty text.
        rows = ((None, ((1, 1), (1, 2))), (5, NONE2), (3, NONE2))
        self.assertEqual(kin((2, rows)), ((0, 0), (1, 0), (1, -2)))
        rows = ((None, ((1, 1), (1, 2))), (3, NONE2), (60, NONE2))
        self.assertEqual(kin((2, rows)), ((0, 0), (1, 0), (1, 57)))

    def test_the_same_steps_by_other_letters(self):
        rows = ((None, ((1, 1), (1, 2))), (3, ((1, 1), None)), (3, (None, (1, 2))))
        self.assertEqual(kin((2, rows)), ((0, 0), (1, 0), (2, 0)))
        rows = ((None, ((1, 1), (1, 2))), (3, ((1, 1), (2, 2))), (3, ((2, 1), (1, 2))))
        self.assertEqual(kin((2, rows)), ((0, 0), (1, 0), (2, 0)))

    def test_rings_of_few_bits_and_an_end_of_many(self):
        # 0 and 1, 3 and 4 lead round in turn, and 1 and 4 on to 2.
        rows = ((None, ((1, 1), None)), (None, ((1, 0), (0, 2))), (60, ((0, 0), (0, 3))),
                (None, ((1, 4), None)), (None, ((1, 3), (0, 2))))
        told = ((0, 0), (1, 0), (2, 0), (0, 0), (1, 0))
        self.assertEqual(plain_kin((2, rows), 8), told)
        self.assertEqual(kin((2, rows)), told)
        # 0 and 1, 2 and 3 lead round in turn, and from each pair on to 4 or 5.
        rows = ((None, ((1, 1), (0, 4))), (None, ((1, 0), (0, 5))), (None, ((1, 3), (2, 4))),
                (None, ((1, 2), (2, 5))), (60, ((0, 2), (0, 0))), (60, ((0, 3), (0, 1))))
        told = ((0, 0), (0, 0), (0, 2), (0, 2), (4, 0), (4, 0))
        self.assertEqual(plain_kin((2, rows), 8), told)
        self.assertEqual(kin((2, rows)), told)
        told = ((0, 0), (1, 0), (0, 2), (1, 2), (4, 0), (5, 0))
        rows = rows[:5] + ((59, ((0, 3), (0, 1))),)
        self.assertEqual(plain_kin((2, rows), 8), told)
        self.assertEqual(kin((2, rows)), told)

    def test_the_states_are_those_of_trimmed(self):
        rows = ((None, ((1, 2), (1, 3))), (1, NONE2), (5, ((0, 1), (0, 4))), (3, ((0, 1), None)),
                (None, ((0, 4), (0, 4))))
        self.assertEqual(kin((2, rows)), ((0, 0), (1, 0), (2, 0), (3, 0)))
        rows = rows[:2] + ((5, ((0, 4), (0, 1))), (7, ((0, 4), (2, 1)))) + rows[4:]
        self.assertEqual(kin((2, rows)), ((0, 0), (1, 0), (2, 0), (2, 2)))
        self.assertEqual(kin((2, rows[:1] + rows[4:] + rows[2:4] + rows[1:2])),
                         kin((2, (rows[0], rows[4], rows[2], rows[3], rows[1]))))

    def test_rings(self):
        for states in (1, 2, 29, 30):
            machine = (1, tuple((4, ((2, (k + 1) % states),)) for k in range(states)))
            self.assertEqual(kin(machine), ((0, 0),) * states)
            machine = ring(states, 1, 1, 9)
            self.assertEqual(kin(machine), tuple((k, 0) for k in range(states)))
        # Alike in turn, by the bits that one takes more and the other one less.
        rows = ((9, ((6, 1),)), (6, ((0, 2),)), (9, ((6, 3),)), (6, ((0, 0),)))
        self.assertEqual(kin((1, rows)), ((0, 0), (0, -3), (0, 0), (0, -3)))
        rows = rows[:3] + ((6, ((1, 0),)),)
        self.assertEqual(kin((1, rows)), tuple((k, 0) for k in range(4)))

    def test_by_all_texts_of_few_letters(self):
        source = random.Random(51)
        alike = 0
        for k in range(400):
            size = source.choice((1, 2, 2))
            states = source.choice((2, 3, 4))
            machine = small_machine(source, states, size, source.random() < 0.4)
            if k % 2:
                # Some have rings of few bits far from ends of many.
                ends = (None, 2, 3) if k % 4 == 1 else (None, None, 40)
                machine = random_machine(source, 2, size, (None, 1, 2), ends)
                machine = doubled(source, machine, 1)
            rows = trimmed(machine)
            told = kin(machine)
            self.assertEqual(told, plain_kin(rows, 7))
            alike += sum(least < state for state, (least, number) in enumerate(told))
        self.assertGreater(alike, 80)

    def test_thirty_states(self):
        source = random.Random(52)
        for size in (1, 2, 8):
            for shift in (0, 1, 3):
                machine = random_machine(source, 15, size, (3, 4, 5), (4, 5, 6))
                twice = doubled(source, machine, shift)
                told = kin(twice)
                rows = trimmed(twice)
                for state, (least, number) in enumerate(told):
                    self.assertLessEqual(least, state)
                    self.assertEqual(told[least], (least, 0))
                    own, other = from_state(rows, state), from_state(rows, least)
                    self.assertEqual(excess(own, other)[:2], ("most", number))
                    self.assertEqual(excess(other, own)[:2], ("most", -number))
                firsts = sorted({least for least, number in told})
                for a in firsts:
                    for b in firsts[:5]:
                        if a != b:
                            there = excess(from_state(rows, a), from_state(rows, b))
                            back = excess(from_state(rows, b), from_state(rows, a))
                            self.assertFalse(there[0] == back[0] == "most"
                                             and there[1] == -back[1])
                self.assertLessEqual(len(firsts), 15)

    def test_no_machine(self):
        for name, thing in wrong_machines().items():
            with self.subTest(name):
                self.assertEqual(told_error(kin, thing), (NoMachine, {}))


class Errors(unittest.TestCase):
    def test_no_machine(self):
        for name, thing in wrong_machines().items():
            with self.subTest(name):
                for other in (ONES, NEGATIVE, thing, None, KNOTTY):
                    for tell in (parting, excess):
                        self.assertEqual(told_error(tell, thing, other), (NoMachine, {}))
                        self.assertEqual(told_error(tell, other, thing), (NoMachine, {}))
                    self.assertEqual(told_error(is_endless, thing, other, None), (NoMachine, {}))
                    self.assertEqual(told_error(is_endless, other, thing, None), (NoMachine, {}))

    def test_other_size(self):
        machines = [chain(2, size, 1, 1) for size in range(1, 9)]
        for one in machines + [NO_TEXTS, NEGATIVE, KNOTTY]:
            for other in machines + [EMPTY, SINGULAR, ABOVE]:
                told = None if one[0] == other[0] else (OtherSize, {})
                self.assertEqual(told_error(parting, one, other), told)
                self.assertEqual(told_error(excess, one, other), told)
                for thing in (None, ("endless", (), (), ())):
                    self.assertEqual(told_error(is_endless, one, other, thing), told)


class Bits(unittest.TestCase):
    def test_the_most_and_the_fewest(self):
        self.assertEqual(excess((1, ((60, (None,)),)), (1, ((1, (None,)),))), ("most", 59, ()))
        self.assertEqual(excess((1, ((1, (None,)),)), (1, ((60, (None,)),))), ("most", -59, ()))
        self.assertEqual(excess(chain(30, 8, 60, 60), chain(30, 8, 0, 1)),
                         ("most", 29 * 60 + 59, (0,) * 29))


if __name__ == "__main__":
    unittest.main()
