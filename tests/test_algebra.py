"""Point [14]: machines put together."""

import itertools
import random
import unittest
from fractions import Fraction

from keptlengths.algebra import behind, chosen, filtered, longer, relettered, rows_of, without
from keptlengths.errors import (
    NoEnd, NoLetters, NoMachine, NoMachines, NoNumber, NoSize, OtherSize, TooMany,
)
from keptlengths.machines import is_machine, trimmed
from keptlengths.sums import total
from samples import (
    ABOVE, BELOW, EMPTY, JUST, KNOTTY, NEGATIVE, NO_TEXTS, NONE2, ODD, ONES, SINGULAR, chain,
    plain_left, plain_length, random_machine, random_machines, ring, texts_up_to, told_error,
    wrong_machines,
)

TOO_MANY = (TooMany, {"most": 30})
SAMPLES = [ONES, JUST, BELOW, ABOVE, SINGULAR, NEGATIVE, EMPTY, KNOTTY, NO_TEXTS]
MACHINES = SAMPLES + random_machines(150, 41)
# As many letters as texts of a size are listed of.
LISTED = {1: 9, 2: 6, 3: 4, 4: 3, 5: 3, 6: 3, 7: 2, 8: 2}


def pairs_of_one_size(many, seed):
    """Pairs of random machines of one size."""
    source = random.Random(seed)
    for _ in range(many):
        size = source.choice((1, 2, 2, 3, 3, 6))
        told = []
        for _ in range(2):
            mores = source.choice(((None, 0, 1), (None, None, 2), (1, 2, 3), (None, 4), (0, 7, None, None)))
            ends = source.choice(((None, 1), (None, None, 2, 5), (3,), (None, None, None, 60)))
            told.append(random_machine(source, source.choice((1, 2, 3, 4, 5)), size, mores, ends))
        yield tuple(told)


PAIRS = [(machine, machine) for machine in SAMPLES] + list(pairs_of_one_size(200, 42))
PAIRS += [(machine, sieve) for machine, sieve in pairs_of_one_size(400, 40)
          if total(machine) not in (None, (0, 1))]
PAIRS += list(itertools.product([machine for machine in SAMPLES if machine[0] == 2], repeat=2))


def fraction(told):
    return None if told is None else Fraction(*told)


def has_texts(machine):
    return bool(plain_left(machine))


def plain_pairs(machine, sieve, wanted):
    """The pairs of states of two trimmed machines through which texts of the result go."""
    rows, others = trimmed(machine)[1], trimmed(sieve)[1]
    ways = {}
    waiting = [(0, 0)]
    while waiting:
        pair = waiting.pop()
        if pair in ways:
            continue
        ways[pair] = []
        for letter, step in enumerate(rows[pair[0]][1]):
            if step is not None:
                twin = None if pair[1] is None else others[pair[1]][1][letter]
                ways[pair].append((step[1], None if twin is None else twin[1]))
        waiting += ways[pair]
    found = set()
    for pair in ways:
        in_sieve = pair[1] is not None and others[pair[1]][0] is not None
        if rows[pair[0]][0] is not None and in_sieve == wanted:
            found.add(pair)
    for _ in ways:
        found |= {pair for pair in ways if any(after in found for after in ways[pair])}
    return found


class Case(unittest.TestCase):
    def check(self, told, size, states, length_of, letters=None):
        """A trimmed machine of this size, with so many states, by which texts are as they are told."""
        self.assertTrue(is_machine(told))
        self.assertEqual(trimmed(told), told)
        self.assertEqual(told[0], size)
        self.assertEqual(len(told[1]), states)
        for text in texts_up_to(size, LISTED[size] if letters is None else letters):
            self.assertEqual(plain_length(told, text), length_of(text), text)


class Longer(Case):
    def test_lengths(self):
        for machine in MACHINES:
            size, rows = machine
            ends = [rows[k][0] for k in plain_left(machine) if rows[k][0] is not None]
            for number in (0, 1, 7, 60 - max(ends, default=0)):
                if number + max(ends, default=0) > 60:
                    continue
                told = longer(machine, number)

                def length_of(text):
                    bits = plain_length(machine, text)
                    return None if bits is None else bits + number

                self.check(told, size, len(trimmed(machine)[1]), length_of)
                if total(machine) is not None:
                    self.assertEqual(fraction(total(told)), fraction(total(machine)) / 2 ** number)

    def test_no_end(self):
        for machine in MACHINES:
            rows = machine[1]
            most = max([rows[k][0] for k in plain_left(machine) if rows[k][0] is not None], default=0)
            for number in range(61):
                told = None if most + number <= 60 else (NoEnd, {})
                self.assertEqual(told_error(longer, machine, number), told)
        # What no text goes through has no end.
        machine = (2, ((3, NONE2), (60, ((0, 0), None))))
        self.assertEqual(longer(machine, 57), (2, ((60, NONE2),)))
        self.assertEqual(longer(EMPTY, 60), NO_TEXTS)

    def test_errors(self):
        for name, thing in wrong_machines().items():
            for other in (0, 61, None):
                self.assertEqual(told_error(longer, thing, other), (NoMachine, {}), name)
        for odd in ODD + (61, -1, True, "1", 10 ** 30 - 1):
            for machine in (ONES, NO_TEXTS, (2, ((60, NONE2),))):
                self.assertEqual(told_error(longer, machine, odd), (NoNumber, {}))


class Relettered(Case):
    def test_lengths(self):
        source = random.Random(43)
        for machine in MACHINES:
            letters = list(range(machine[0]))
            source.shuffle(letters)

            def length_of(text):
                return plain_length(machine, tuple(letters.index(letter) for letter in text))

            told = relettered(machine, tuple(letters))
            self.check(told, machine[0], len(trimmed(machine)[1]), length_of)
            self.assertEqual(total(told), total(machine))
            back = tuple(letters.index(letter) for letter in range(machine[0]))
            for text in texts_up_to(machine[0], 3):
                self.assertEqual(plain_length(relettered(told, back), text), plain_length(machine, text))

    def test_all_orders(self):
        for letters in itertools.permutations(range(3)):
            told = relettered(KNOTTY, letters)
            for text in texts_up_to(3, 4):
                exchanged = tuple(letters[letter] for letter in text)
                self.assertEqual(plain_length(told, exchanged), plain_length(KNOTTY, text))
        # Letter 0 becomes 1, 1 becomes 2, and 2 becomes 0.
        machine = (3, ((1, ((10, 0), (20, 0), (30, 0))),))
        self.assertEqual(relettered(machine, (1, 2, 0)), (3, ((1, ((30, 0), (10, 0), (20, 0))),)))

    def test_errors(self):
        for name, thing in wrong_machines().items():
            for other in ((0, 1), None):
                self.assertEqual(told_error(relettered, thing, other), (NoMachine, {}), name)
        wrong = [[0, 1], (0,), (0, 0), (0, 1, 0), (1, 0, 0, 1), (1, 2), (0, 1, 2), (), (0, True), (False, 1), (0, -1), "01",
                 ((0, 1),), (0, None), {0: 1, 1: 0}, (0, "1"), (0, [1]), (1, (0,)), (0, 10 ** 29)]
        for thing in tuple(wrong) + ODD:
            for machine in (JUST, EMPTY):
                self.assertEqual(told_error(relettered, machine, thing), (NoLetters, {}))
        self.assertEqual(told_error(relettered, ring(2, 1, 1, 1), (False,)), (NoLetters, {}))


class Sieved(Case):
    def test_lengths(self):
        both = 0
        for machine, sieve in PAIRS:
            def inside(text):
                return plain_length(machine, text) if plain_length(sieve, text) is not None else None

            def outside(text):
                return plain_length(machine, text) if plain_length(sieve, text) is None else None

            for tell, length_of, wanted in ((filtered, inside, True), (without, outside, False)):
                with self.subTest(tell.__name__, machine=machine, sieve=sieve):
                    pairs = plain_pairs(machine, sieve, wanted)
                    self.check(tell(machine, sieve), machine[0], max(1, len(pairs)), length_of)
            if total(machine) is not None:
                sums = [total(filtered(machine, sieve)), total(without(machine, sieve))]
                self.assertEqual(sum(map(fraction, sums)), fraction(total(machine)))
                both += (0, 1) not in sums
        self.assertGreater(both, 60)

    def test_by_hand(self):
        # Of JUST the texts of zeros alone, and all others.
        self.assertEqual(filtered(JUST, ONES), (2, ((1, ((2, 0), None)),)))
        told = without(JUST, ONES)
        self.assertEqual(told, (2, ((None, ((2, 0), (2, 1))), (1, ((2, 1), (2, 1))))))
        for machine in SAMPLES:
            none = (machine[0], ((None, (None,) * machine[0]),))
            self.assertEqual(filtered(machine, none), none)
            self.assertEqual(without(machine, machine), none)
            self.assertEqual(without(none, machine), none)
            self.assertEqual(len(filtered(machine, machine)[1]), len(trimmed(machine)[1]))
        # Without nothing: at first the sieve is at its state 0, behind a letter at none.
        self.assertEqual(without(ONES, NO_TEXTS), (2, ((3, ((1, 1), None)), (3, ((1, 1), None)))))

    def test_the_numbers_of_the_sieve_do_not_matter(self):
        source = random.Random(44)
        for machine, sieve in PAIRS:
            other = (sieve[0], tuple(
                (None if end is None else source.randrange(1, 61),
                 tuple(None if step is None else (source.randrange(61), step[1]) for step in steps))
                for end, steps in sieve[1]))
            self.assertEqual(filtered(machine, sieve), filtered(machine, other))
            self.assertEqual(without(machine, sieve), without(machine, other))

    def test_up_to_thirty_states(self):
        one, other = ring(5, 1, 2, 3), ring(6, 4, 0, 1)
        bits = {30 * k: 30 * k // 5 * 6 + 3 for k in range(3)}
        self.check(filtered(one, other), 1, 30, lambda text: bits.get(len(text)), 70)
        bits = {5 * k: 6 * k + 3 for k in range(19) if k % 6}
        self.check(without(one, other), 1, 30, lambda text: bits.get(len(text)), 90)
        for machine in (ring(30, 1, 1, 1), chain(30, 3, 60, 1), chain(30, 8, 0, 1)):
            self.assertEqual(filtered(machine, machine), machine)
            self.assertEqual(len(without(machine, machine)[1]), 1)
        for tell in (filtered, without):
            self.assertEqual(told_error(tell, ring(5, 1, 1, 1), ring(7, 1, 1, 1)), TOO_MANY)
            self.assertEqual(told_error(tell, ring(30, 1, 1, 1), ring(29, 1, 1, 1)), TOO_MANY)
        # Thirty states, and one more where the sieve has stopped.
        self.assertEqual(len(without(ring(29, 1, 1, 1), (1, ((None, (None,)),)))[1]), 30)
        self.assertEqual(told_error(without, ring(30, 1, 1, 1), (1, ((None, (None,)),))), TOO_MANY)

    def test_only_pairs_through_which_texts_go_are_counted(self):
        # Rings of 5 and of 7 states, from which no text comes to an end of both.
        none = (None, None, None)
        one = [(None, ((1, 1), (1, 6), None))] + [(None, ((1, k % 5 + 1), (1, 6), None)) for k in range(1, 6)]
        other = [(None, ((0, 1), (0, 8), None))] + [(None, ((0, k % 7 + 1), None, (0, 8))) for k in range(1, 8)]
        one, other = (3, tuple(one) + ((4, none),)), (3, tuple(other) + ((1, none),))
        self.assertEqual(filtered(one, other), (3, ((None, (None, (1, 1), None)), (4, none))))
        self.assertEqual(filtered(other, one), (3, ((None, (None, (0, 1), None)), (1, none))))
        self.assertEqual(told_error(without, one, other), TOO_MANY)
        source = random.Random(45)
        kinds = set()
        for _ in range(60):
            machine = random_machine(source, source.choice((3, 6, 12, 30)), 2, (None, 1, 1), (None, 2))
            sieve = random_machine(source, source.choice((3, 9, 30)), 2, (None, 1, 1), (None, None, 2))
            for tell, wanted in ((filtered, True), (without, False)):
                many = max(1, len(plain_pairs(machine, sieve, wanted)))
                if many > 30:
                    self.assertEqual(told_error(tell, machine, sieve), TOO_MANY)
                else:
                    self.assertEqual(len(tell(machine, sieve)[1]), many)
                kinds.add((tell, many > 30))
        self.assertEqual(len(kinds), 4)

    def test_errors(self):
        for tell in (filtered, without):
            for name, thing in wrong_machines().items():
                with self.subTest(name):
                    for other in (ONES, KNOTTY, None, thing):
                        self.assertEqual(told_error(tell, thing, other), (NoMachine, {}))
                    self.assertEqual(told_error(tell, KNOTTY, thing), (NoMachine, {}))
            for one, other in itertools.permutations((ONES, KNOTTY, ring(3, 1, 1, 1), chain(2, 8, 1, 1)), 2):
                self.assertEqual(told_error(tell, one, other), (OtherSize, {}))


class Chosen(Case):
    def test_lengths(self):
        source = random.Random(46)
        sums = 0
        for _ in range(250):
            size = source.choice((2, 2, 3, 3, 6, 8))
            many = source.randrange(2, min(size, 7) + 1)
            machines = tuple(random_machine(source, source.choice((1, 2, 3)), size, (None, 1, 2, 5),
                                            source.choice(((None, None, 2), (1, 9), (None,))))
                             for _ in range(many))
            more = source.choice((0, 1, 3, 60))

            def length_of(text):
                if not text or text[0] >= many:
                    return None
                bits = plain_length(machines[text[0]], text[1:])
                return None if bits is None else bits + more

            states = sum(len(trimmed(machine)[1]) for machine in machines if has_texts(machine))
            told = chosen(machines, more)
            self.check(told, size, 1 + states, length_of)
            totals = [total(machine) for machine in machines]
            if None in totals:
                self.assertIsNone(total(told))
            else:
                self.assertEqual(fraction(total(told)), sum(map(fraction, totals)) / 2 ** more)
                sums += total(told) != (0, 1)
        self.assertGreater(sums, 100)

    def test_by_hand(self):
        self.assertEqual(chosen((NO_TEXTS, EMPTY), 3), NO_TEXTS)
        self.assertEqual(len(chosen((JUST, JUST), 3)[1]), 3)
        self.assertEqual(chosen((EMPTY, JUST), 3), (2, ((None, (None, (3, 1))), (1, ((2, 1), (2, 1))))))
        self.assertEqual(total(chosen((JUST, JUST), 1)), (1, 1))

    def test_up_to_thirty_states(self):
        for parts, more in (((14, 15), 1), ((28, 1), 60), ((29, None), 0)):
            machines = tuple(NO_TEXTS if k is None else chain(k, 2, 1, 2) for k in parts)

            def length_of(text):
                bits = plain_length(machines[text[0]], text[1:]) if text and text[0] < 2 else None
                return None if bits is None else bits + more

            self.check(chosen(machines, more), 2, 30, length_of)
        told = chosen((chain(28, 2, 1, 2), ONES), 9)
        self.assertEqual(plain_length(told, (0,) * 28), 27 + 2 + 9)
        for parts in ((15, 15), (29, 1), (30, 30), (30,)):
            machines = tuple(chain(k, 2, 1, 2) for k in parts) + (NO_TEXTS,) * (2 - len(parts))
            self.assertEqual(told_error(chosen, machines, 0), TOO_MANY)
        machines = tuple(chain(5, 8, 1, 1) for _ in range(7))
        self.assertEqual(told_error(chosen, machines, 0), TOO_MANY)
        self.assertEqual(len(chosen(tuple(chain(4, 8, 1, 1) for _ in range(7)), 0)[1]), 29)

    def test_no_machines(self):
        wrong = [[JUST, JUST], (JUST,), (), (JUST, KNOTTY), (KNOTTY, KNOTTY, JUST), (JUST,) * 3,
                 (KNOTTY,) * 4, (ring(1, 1, 1, 1),) * 2, (chain(1, 8, 1, 1),) * 8, JUST,
                 (JUST, list(JUST)), (JUST, (2, list(JUST[1]))), ((JUST, JUST),), {0: JUST, 1: JUST}]
        for thing in tuple(wrong) + ODD + tuple((JUST, odd) for odd in ODD):
            for more in (0, 61, None):
                self.assertEqual(told_error(chosen, thing, more), (NoMachines, {}))
        for name, thing in wrong_machines().items():
            with self.subTest(name):
                self.assertEqual(told_error(chosen, (thing, JUST), 0), (NoMachines, {}))
                self.assertEqual(told_error(chosen, (JUST, thing), 0), (NoMachines, {}))
        for many in range(9):
            machines = (chain(1, 8, 1, 1),) * many
            told = None if 2 <= many <= 7 else (NoMachines, {})
            self.assertEqual(told_error(chosen, machines, 0), told)

    def test_no_number(self):
        for odd in ODD + (61, -1, True, "1", (1,)):
            for machines in ((JUST, JUST), (EMPTY, EMPTY), (chain(30, 2, 1, 1),) * 2):
                self.assertEqual(told_error(chosen, machines, odd), (NoNumber, {}))


class Behind(Case):
    def test_lengths(self):
        sums = 0
        for one, other in PAIRS:
            size = one[0]

            def length_of(text):
                if text.count(size) != 1:
                    return None
                at = text.index(size)
                first, second = plain_length(one, text[:at]), plain_length(other, text[at + 1:])
                return None if first is None or second is None else first + second

            states = len(trimmed(one)[1]) + len(trimmed(other)[1])
            told = behind(one, other)
            self.check(told, size + 1, states if has_texts(one) and has_texts(other) else 1, length_of)
            if total(one) is not None and total(other) is not None:
                self.assertEqual(fraction(total(told)), fraction(total(one)) * fraction(total(other)))
                sums += total(told) != (0, 1)
        self.assertGreater(sums, 50)

    def test_by_hand(self):
        told = behind(ONES, JUST)
        self.assertEqual(told, (3, ((None, ((1, 0), None, (3, 1))), (1, ((2, 1), (2, 1), None)))))
        none = (3, ((None, (None,) * 3),))
        for one, other in ((JUST, EMPTY), (NO_TEXTS, JUST), (EMPTY, NO_TEXTS), (NO_TEXTS, NEGATIVE)):
            self.assertEqual(behind(one, other), none)

    def test_up_to_thirty_states(self):
        for many in (1, 15, 29):
            one, other = chain(many, 1, 2, 60), chain(30 - many, 1, 3, 4)
            text = (0,) * (many - 1) + (1,) + (0,) * (29 - many)
            told = behind(one, other)
            self.assertEqual(len(told[1]), 30)
            self.assertEqual(plain_length(told, text), 2 * (many - 1) + 60 + 3 * (29 - many) + 4)
            self.assertIsNone(plain_length(told, text + (0,)))
            self.assertEqual(told_error(behind, one, chain(31 - many, 1, 3, 4)), TOO_MANY)
        self.assertEqual(len(behind(chain(30, 1, 1, 1), (1, ((None, ((1, 0),)),)))[1]), 1)

    def test_errors(self):
        for name, thing in wrong_machines().items():
            with self.subTest(name):
                for other in (ONES, KNOTTY, None, thing):
                    self.assertEqual(told_error(behind, thing, other), (NoMachine, {}))
                self.assertEqual(told_error(behind, KNOTTY, thing), (NoMachine, {}))
        eight, seven = chain(30, 8, 1, 1), chain(3, 7, 1, 1)
        self.assertEqual(told_error(behind, eight, seven), (OtherSize, {}))
        self.assertEqual(told_error(behind, seven, eight), (OtherSize, {}))
        self.assertEqual(told_error(behind, eight, eight), (NoSize, {}))
        self.assertEqual(told_error(behind, eight, (8, ((None, (None,) * 8),))), (NoSize, {}))
        self.assertEqual(behind(seven, seven)[0], 8)


class RowsOf(Case):
    def test_lengths(self):
        sums, none = 0, 0
        for machine in MACHINES:
            size, rows = machine
            if size == 8:
                continue
            ends = [rows[k][0] for k in plain_left(machine) if rows[k][0] is not None]
            for more in (0, 1, 4):
                if more + max(ends, default=0) > 60:
                    continue

                def length_of(text):
                    if text[-1:] != (size,):
                        return None
                    bits, part = 1, ()
                    for letter in text:
                        if letter < size:
                            part += (letter,)
                            continue
                        if plain_length(machine, part) is None:
                            return None
                        bits += plain_length(machine, part) + more
                        part = ()
                    return bits

                told = rows_of(machine, more)
                states = len(trimmed(machine)[1]) + 1 if ends else 1
                self.check(told, size + 1, states, length_of)
                worth = fraction(total(machine))
                if worth is None or worth / 2 ** more >= 1:
                    self.assertIsNone(total(told))
                    none += 1
                else:
                    worth /= 2 ** more
                    self.assertEqual(fraction(total(told)), worth / (1 - worth) / 2)
                    sums += worth > 0
        self.assertGreater(sums, 60)
        self.assertGreater(none, 20)

    def test_by_hand(self):
        told = rows_of(ONES, 2)
        self.assertEqual(told, (3, ((None, ((1, 0), None, (5, 1))), (1, ((1, 0), None, (5, 1))))))
        self.assertEqual(rows_of(EMPTY, 60), (3, ((None, (None,) * 3),)))
        self.assertIsNone(total(rows_of(JUST, 0)))
        self.assertEqual(total(rows_of(JUST, 1)), (1, 2))

    def test_up_to_thirty_states(self):
        told = rows_of(chain(29, 7, 1, 1), 59)
        self.assertEqual(len(told[1]), 30)
        text = ((0,) * 28 + (7,)) * 3
        self.assertEqual(plain_length(told, text), 3 * (28 + 60) + 1)
        self.assertIsNone(plain_length(told, text[:-1]))
        for machine in (chain(30, 7, 1, 1), ring(30, 0, 0, 60)):
            self.assertEqual(told_error(rows_of, machine, 0), TOO_MANY)

    def test_errors(self):
        for name, thing in wrong_machines().items():
            for other in (0, 61, None):
                self.assertEqual(told_error(rows_of, thing, other), (NoMachine, {}), name)
        for other in (0, 61, None, 60):
            self.assertEqual(told_error(rows_of, chain(2, 8, 1, 60), other), (NoSize, {}))
        for odd in ODD + (61, -1, True, "1"):
            for machine in (JUST, EMPTY, (2, ((60, NONE2),)), chain(30, 7, 1, 60)):
                self.assertEqual(told_error(rows_of, machine, odd), (NoNumber, {}))
        for machine in (JUST, KNOTTY, BELOW, ring(30, 0, 0, 60), chain(30, 1, 1, 41), (2, ((60, NONE2),))):
            most = max(end for end, steps in trimmed(machine)[1] if end is not None)
            for more in range(61):
                told = TOO_MANY if len(machine[1]) == 30 else None
                self.assertEqual(told_error(rows_of, machine, more),
                                 told if most + more <= 60 else (NoEnd, {}))
        # What no text goes through has no end.
        self.assertEqual(len(rows_of((2, ((3, NONE2), (60, ((0, 0), None)))), 57)[1]), 2)


if __name__ == "__main__":
    unittest.main()
