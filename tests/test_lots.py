"""Point [15]: lots of machines, packed as well as the best of them at an exact price."""

import itertools
import random
import unittest
from fractions import Fraction
from math import gcd

from keptlengths.errors import NoBits, NoLot, NoNumber, NoText, TooMany
from keptlengths.lots import best, is_lot, lot_word, price, read_lot_word, sum_best
from keptlengths.machines import is_bits
from keptlengths.sums import kept
from keptlengths.words import word
from samples import (
    ABOVE, BELOW, EMPTY, JUST, KNOTTY, NEGATIVE, NO_TEXTS, NONE2, ODD, ONES, SINGULAR, chain,
    dealt, mixed, nested, plain_length, random_machine, random_machines, ring, told_error,
    wrong_machines,
)

# As many letters as texts of a size are listed of.
LISTED = {1: 12, 2: 6, 3: 4, 5: 3, 8: 2}


def random_lots(many, seed):
    """Lots of 1 to 4 machines of few states, of all kinds."""
    source = random.Random(seed)
    for _ in range(many):
        size = source.choice((1, 2, 2, 3, 5, 8))
        mores = source.choice(((None, 0, 1, 2), (0, 1, 3), (1, 2, None), (None, 5, 60), (2, 3)))
        ends = source.choice(((None, 1), (1, 2, 7), (None, None, 60, 1)))
        yield tuple(random_machine(source, source.choice((1, 2, 3, 5)), size, mores, ends)
                    for _ in range(source.choice((1, 2, 2, 3, 4))))


def plain_best(lot, text):
    lengths = [plain_length(machine, text) for machine in lot]
    return min((bits for bits in lengths if bits is not None), default=None)


def plain_bests(lot, n):
    """The best of each text of n letters, in order."""
    told = {text: plain_best(lot, text) for text in itertools.product(range(lot[0][0]), repeat=n)}
    return {text: bits for text, bits in told.items() if bits is not None}


def plain_price(worth):
    number = 0
    while worth > 2 ** number:
        number += 1
    return number


def plain_words(bests, number):
    """The words of texts by their best and a number more: each begins where the last one ends."""
    free = Fraction(0)
    words = {}
    for text in sorted(bests, key=lambda text: (bests[text], text)):
        bits = bests[text] + number
        place = free * 2 ** bits
        assert place.denominator == 1 and place < 2 ** bits
        words[text] = format(place.numerator, "0%db" % bits)
        free += Fraction(1, 2 ** bits)
    return words


def plain_worth(lot, n):
    """The sum of 2 ** -best, by what the machines of a lot have taken, letter by letter."""
    level = {((0, 0),) * len(lot): 1}
    for _ in range(n):
        behind = {}
        for node, number in level.items():
            for letter in range(lot[0][0]):
                told = []
                for machine, own in zip(lot, node):
                    step = None if own is None else machine[1][own[0]][1][letter]
                    told.append(None if step is None else (step[1], own[1] + step[0]))
                behind[tuple(told)] = behind.get(tuple(told), 0) + number
        level = behind
    worth = Fraction(0)
    for node, number in level.items():
        ends = [own[1] + machine[1][own[0]][0] for machine, own in zip(lot, node)
                if own is not None and machine[1][own[0]][0] is not None]
        if ends:
            worth += Fraction(number, 2 ** min(ends))
    return worth


def digit_machine(digits, extra):
    """A machine of size 8 that takes at letter k of place p the p-th digit's k, or its last one.

    With extra, the letter 7 in the first place leads to where no letter takes a bit.
    """
    rows = [(1, tuple((digit[min(k, len(digit) - 1)], place + 1) for k in range(8)))
            for place, digit in enumerate(digits)]
    last = len(digits)
    rows += [(1, ((0, last),) * 8), (1, ((0, last + 1),) * 8)]
    if extra == "apart":
        rows[0] = (1, rows[0][1][:7] + ((0, last + 1),))
    elif extra == "stopped":
        rows[0] = (1, rows[0][1][:7] + (None,))
    return (8, tuple(rows))


def digit_lot(extra, fifth=8):
    """A lot of which 5 * 5 * 5 * 5 * fifth unlike tuples come up at five letters."""
    five, none = (0, 1, 2, 3, 4), (0,)
    fives = (0, 5, 10, 15, 20)
    return (
        digit_machine((none, none, none, none, none), extra),
        digit_machine((five, fives, none, none, none), extra),
        digit_machine((none, none, five, fives, none), extra),
        digit_machine((none, none, none, none, tuple(range(fifth))), extra),
    )


class IsLot(unittest.TestCase):
    def test_lots(self):
        for lot in random_lots(60, 61):
            self.assertIs(is_lot(lot), True)
        for many in range(7):
            self.assertIs(is_lot((JUST,) * many), 1 <= many <= 4)
        for size in range(1, 9):
            machine = chain(3, size, 1, 1)
            self.assertIs(is_lot((machine, chain(30, size, 0, 60))), True)
            self.assertIs(is_lot((machine, ONES)), size == 2)
            self.assertIs(is_lot((ONES, ONES, machine)), size == 2)
            self.assertIs(is_lot((ONES, machine, ONES)), size == 2)

    def test_wrong(self):
        self.assertIs(is_lot(ONES), False)
        for odd in ODD + (mixed(30), nested(30), [ONES], [ONES, JUST], {0: ONES}, ONES[1], (ONES,)):
            with self.subTest(odd=odd):
                self.assertIs(is_lot(odd), odd == (ONES,))
                self.assertIs(is_lot((odd,)), False)
                self.assertIs(is_lot((ONES, odd)), False)
                self.assertIs(is_lot((odd, ONES)), False)
        for name, thing in wrong_machines().items():
            with self.subTest(name):
                self.assertIs(is_lot((thing,)), False)
                self.assertIs(is_lot((ONES, thing)), False)
                self.assertIs(is_lot((ONES, ONES, ONES, thing)), False)


class Best(unittest.TestCase):
    def test_by_hand(self):
        self.assertEqual(best((ONES,), ()), 3)
        self.assertEqual(best((ONES, JUST), ()), 1)
        self.assertEqual(best((ONES, JUST), (0,)), 3)
        self.assertEqual(best((ONES, JUST), (0, 0, 0)), 6)
        self.assertEqual(best((ONES, JUST), (0, 1)), 5)
        self.assertIsNone(best((ONES,), (1,)))
        self.assertIsNone(best((NO_TEXTS, EMPTY), ()))

    def test_of_any_number_of_letters(self):
        self.assertEqual(best((JUST, ONES), (0,) * 4000), 4003)
        self.assertEqual(best((JUST, ONES), (1,) * 4000), 8001)
        self.assertEqual(best((ring(30, 60, 60, 60),), (0,) * 3990), 60 * 3991)

    def test_as_worked_out_plainly(self):
        for lot in random_lots(80, 62):
            for n in range(4):
                for text in list(itertools.product(range(lot[0][0]), repeat=n))[:50]:
                    self.assertEqual(best(lot, text), plain_best(lot, text))

    def test_no_too_many(self):
        self.assertEqual(best(digit_lot("apart"), (7, 1, 2, 3, 4)), 1)
        self.assertEqual(best(digit_lot("apart"), (1, 1, 1, 1, 1) * 3), 1)


class SumAndPrice(unittest.TestCase):
    def test_by_hand(self):
        self.assertEqual([sum_best((JUST,), n) for n in range(4)], [(1, 2), (1, 4), (1, 8), (1, 16)])
        self.assertEqual([sum_best((NEGATIVE,), n) for n in range(4)], [(1, 2), (1, 1), (2, 1), (4, 1)])
        self.assertEqual([price((NEGATIVE,), n) for n in range(13)], [0] + list(range(12)))
        self.assertEqual([sum_best((ONES, JUST), n) for n in range(3)], [(1, 2), (1, 4), (1, 8)])
        # (0, 0, 0) takes 6 bits by ONES instead of 7.
        self.assertEqual(sum_best((ONES, JUST), 3), (9, 128))
        self.assertEqual(sum_best((JUST, ABOVE), 2), (9, 32))
        for n in (0, 1, 12):
            self.assertEqual(sum_best((NO_TEXTS, EMPTY), n), (0, 1))
            self.assertEqual(price((NO_TEXTS, EMPTY), n), 0)

    def test_among_all_texts(self):
        prices = set()
        for lot in random_lots(150, 63):
            for n in range(LISTED[lot[0][0]] + 1):
                with self.subTest(lot=lot, n=n):
                    bests = plain_bests(lot, n)
                    worth = sum((Fraction(1, 2 ** bits) for bits in bests.values()), Fraction(0))
                    told = sum_best(lot, n)
                    self.assertEqual(Fraction(*told), worth)
                    self.assertEqual(gcd(*told), 1)
                    self.assertEqual(price(lot, n), plain_price(worth))
                    prices.add(price(lot, n))
        self.assertLessEqual(set(range(6)), prices)

    def test_the_most_letters(self):
        for more, end, told in ((3, 1, (1, 2)), (0, 60, (1, 2 ** 24)), (60, 1, (1, 2 ** 685)),
                                (0, 1, (2 ** 35, 1)), (2, 7, (2 ** 5, 1))):
            machine = (8, ((end, ((more, 0),) * 8),))
            for many in range(1, 5):
                self.assertEqual(sum_best((machine,) * many, 12), told)
                self.assertEqual(price((machine,) * many, 12), max(0, told[0].bit_length() - 1))
        source = random.Random(64)
        for size, states in ((1, 30), (2, 30), (3, 5), (8, 2)):
            lot = tuple(random_machine(source, states, size, (0, 60), (1, 60)) for _ in range(2))
            for n in (11, 12):
                worth = plain_worth(lot, n)
                self.assertEqual(Fraction(*sum_best(lot, n)), worth)
                self.assertEqual(price(lot, n), plain_price(worth))

    def test_thirty_states(self):
        source = random.Random(65)
        for size in (1, 2, 5, 8):
            lot = (random_machine(source, 30, size, (None, 1, 2, 3), (None, 4, 5)),)
            for n in (0, 5, 12):
                self.assertEqual(Fraction(*sum_best(lot, n)), plain_worth(lot, n))
        lot = tuple(random_machine(source, 30, 2, (1, 2), (None, 4, 5)) for _ in range(4))
        for n in (8, 12):
            self.assertEqual(Fraction(*sum_best(lot, n)), plain_worth(lot, n))

    def test_the_price_of_machines_that_can_be_kept(self):
        machines = [machine for machine in random_machines(500, 66) if kept(machine)]
        source = random.Random(67)
        found = 0
        for machine in machines:
            like = [other for other in machines if other[0] == machine[0]]
            for many in (1, 2, 3, 4):
                lot = tuple(source.choice(like) for _ in range(many))
                told = price(lot, source.randrange(4))
                self.assertLessEqual(told, (0, 0, 1, 2, 2)[many])
                found += told > 0
        self.assertLessEqual(price((JUST, BELOW, ONES, JUST), 3), 2)


class Words(unittest.TestCase):
    def test_by_hand(self):
        lot = (ONES, JUST)
        self.assertEqual(lot_word(lot, ()), "0")
        self.assertEqual([lot_word(lot, (k,)) for k in (0, 1)], ["000", "001"])
        # (0, 0, 0) takes 6 bits, all others 7.
        self.assertEqual(lot_word(lot, (0, 0, 0)), "000000")
        self.assertEqual(lot_word(lot, (0, 0, 1)), "0000010")
        self.assertEqual(lot_word(lot, (1, 1, 1)), "0001000")
        self.assertEqual(read_lot_word(lot, 3, "00010001"), ((1, 1, 1), 7))
        self.assertEqual(read_lot_word(lot, 3, "000000"), ((0, 0, 0), 6))
        self.assertIsNone(read_lot_word(lot, 3, "0001001"))
        self.assertIsNone(read_lot_word(lot, 3, "000100"))
        # The price is 1.
        self.assertEqual(price((NEGATIVE,), 2), 1)
        self.assertEqual([lot_word((NEGATIVE,), text) for text in ((0, 0), (0, 1), (1, 0), (1, 1))],
                         ["00", "01", "10", "11"])
        self.assertEqual(read_lot_word((NEGATIVE,), 2, "1011"), ((1, 0), 2))

    def test_dealt_one_by_one(self):
        found = 0
        for lot in random_lots(150, 71):
            for n in range(min(3, LISTED[lot[0][0]]) + 1):
                bests = plain_bests(lot, n)
                number = price(lot, n)
                by_length = [[] for _ in range(11)]
                for text in sorted(bests):
                    if bests[text] + number <= 10:
                        by_length[bests[text] + number].append(text)
                for text, bits in dealt(by_length).items():
                    self.assertEqual(lot_word(lot, text), bits)
                    self.assertEqual(read_lot_word(lot, n, bits), (text, len(bits)))
                    found += 1
        self.assertGreater(found, 1000)

    def test_all_texts(self):
        for lot in random_lots(120, 72):
            for n in range(LISTED[lot[0][0]]):
                words = plain_words(plain_bests(lot, n), price(lot, n))
                for text, bits in list(words.items())[::1 + len(words) // 30]:
                    with self.subTest(lot=lot, text=text):
                        self.assertEqual(lot_word(lot, text), bits)
                        self.assertTrue(is_bits(bits))
                        for more in ("", "0", "1", "0110" * 5000):
                            self.assertEqual(read_lot_word(lot, n, bits + more), (text, len(bits)))
                        self.assertIsNone(read_lot_word(lot, n, bits[:-1]))

    def test_all_bits_are_read(self):
        for lot in random_lots(40, 73):
            for n in range(3):
                words = plain_words(plain_bests(lot, n), price(lot, n))
                texts = {bits: text for text, bits in words.items()}
                for size in range(7):
                    for signs in itertools.product("01", repeat=size):
                        bits = "".join(signs)
                        told = [(texts[bits[:k]], k) for k in range(size + 1) if bits[:k] in texts]
                        self.assertEqual(read_lot_word(lot, n, bits), told[0] if told else None)

    def test_without_texts(self):
        for lot in ((NO_TEXTS,), (EMPTY, NO_TEXTS), (KNOTTY,)):
            for bits in ("", "0", "1" * 20000):
                self.assertIsNone(read_lot_word(lot, 0, bits))

    def test_one_machine_with_all_its_texts_of_as_many_letters(self):
        # All texts have one letter, so that the words are those of the machine itself.
        machine = (3, ((None, ((2, 1), (1, 1), (3, 2))), (1, (None,) * 3), (1, (None,) * 3)))
        for letter in range(3):
            self.assertEqual(lot_word((machine,), (letter,)), word(machine, (letter,)))

    def test_the_most_letters(self):
        source = random.Random(74)
        machine = (8, ((1, ((0, 0),) * 8),))
        for _ in range(5):
            text = tuple(source.randrange(8) for _ in range(12))
            bits = "".join(format(letter, "03b") for letter in text)
            self.assertEqual(lot_word((machine,), text), bits)
            self.assertEqual(read_lot_word((machine,), 12, bits + "11"), (text, 36))
        for size, states, many, mores in (
                (8, 2, 3, (1, 3)), (8, 30, 1, (None, 1, 2, 3)), (2, 30, 4, (1, 2)),
                (3, 3, 3, (None, 0, 60)), (1, 30, 4, (0, 60)), (8, 1, 2, (0, 1, 2, 60))):
            lot = tuple(random_machine(source, states, size, mores, (1, 7, 60)) for _ in range(many))
            for _ in range(4):
                text = tuple(source.randrange(size) for _ in range(12))
                told = best(lot, text)
                if told is None:
                    continue
                bits = lot_word(lot, text)
                self.assertEqual(len(bits), told + price(lot, 12))
                self.assertEqual(read_lot_word(lot, 12, bits + "1001"), (text, len(bits)))
                self.assertIsNone(read_lot_word(lot, 12, bits[:-1]))

    def test_in_order_of_length_and_of_texts(self):
        source = random.Random(75)
        lot = tuple(random_machine(source, 4, 8, (1, 2, 3), (1, 5)) for _ in range(2))
        texts = [tuple(source.randrange(8) for _ in range(12)) for _ in range(25)]
        texts = sorted(texts, key=lambda text: (best(lot, text), text))
        words = [lot_word(lot, text) for text in texts]
        for one, other in zip(words, words[1:]):
            self.assertLess(Fraction(int(one, 2), 2 ** len(one)),
                            Fraction(int(other, 2), 2 ** len(other)))
            self.assertFalse(other.startswith(one))


class Errors(unittest.TestCase):
    def test_no_lot(self):
        wrong = list(ODD) + [(), [ONES], (ONES,) * 5, (ONES, KNOTTY), ONES, (ONES, None)]
        wrong += [(ONES, thing) for thing in wrong_machines().values()]
        for thing in wrong:
            with self.subTest(thing=thing):
                for other in (0, (0,), None, 13):
                    for tell in (best, sum_best, price, lot_word):
                        self.assertEqual(told_error(tell, thing, other), (NoLot, {}))
                    self.assertEqual(told_error(read_lot_word, thing, other, other), (NoLot, {}))

    def test_no_number(self):
        for lot in ((ONES,), (NO_TEXTS, JUST), digit_lot("apart")):
            for thing in ODD + (13, -1, True, False, "1", (1,), [1], 10 ** 30 - 1):
                with self.subTest(thing=thing):
                    self.assertEqual(told_error(sum_best, lot, thing), (NoNumber, {}))
                    self.assertEqual(told_error(price, lot, thing), (NoNumber, {}))
                    for bits in ("", "01", None, "2"):
                        self.assertEqual(told_error(read_lot_word, lot, thing, bits), (NoNumber, {}))

    def test_no_text(self):
        for lot in ((ONES,), (NO_TEXTS, ONES), (EMPTY,)):
            for thing in ODD + ([0], (0, True), (2,), (-1,), "0", ((),), (0,) * 3999 + (2,)):
                if thing != ():
                    self.assertEqual(told_error(best, lot, thing), (NoText, {}))
                    self.assertEqual(told_error(lot_word, lot, thing), (NoText, {}))
        self.assertEqual(told_error(lot_word, (ONES,), (1,)), (NoText, {}))
        self.assertEqual(told_error(lot_word, (NO_TEXTS, EMPTY), ()), (NoText, {}))
        self.assertEqual(told_error(lot_word, (ONES, NO_TEXTS), (0, 1, 0)), (NoText, {}))
        # The lot's texts have at most 12 letters.
        for letters in (13, 14, 4000):
            self.assertEqual(told_error(lot_word, (ONES, JUST), (0,) * letters), (NoText, {}))
        self.assertEqual(lot_word((ONES,), (0,) * 12), "0" * 15)

    def test_no_bits(self):
        for lot in ((ONES,), (NO_TEXTS, JUST), digit_lot("apart")):
            for thing in ODD + ("2", "01 ", "0\n", 0, ("0",), ["0"], ()):
                if thing != "":
                    told = told_error(read_lot_word, lot, 5, thing)
                    self.assertEqual(told, (NoBits, {}))

    def test_too_many(self):
        told = (TooMany, {"most": 5000})
        for extra, error in (("none", None), ("apart", told), ("stopped", told)):
            lot = digit_lot(extra)
            text = (1, 2, 3, 4, 5)
            for n in (0, 4, 5, 6, 12):
                expected = error if n >= 5 else None
                self.assertEqual(told_error(sum_best, lot, n), expected)
                self.assertEqual(told_error(price, lot, n), expected)
                self.assertEqual(told_error(read_lot_word, lot, n, "0"), expected)
                self.assertEqual(told_error(lot_word, lot, (text * 3)[:n]), expected)
            self.assertEqual(best(lot, text * 3), 1)
        self.assertIsNone(told_error(sum_best, digit_lot("apart", 7), 12))

    def test_what_is_due_ahead_of_too_many(self):
        lot = digit_lot("stopped")
        self.assertEqual(told_error(sum_best, lot, 13), (NoNumber, {}))
        self.assertEqual(told_error(lot_word, lot, (7, 0, 0, 0, 0)), (NoText, {}))
        self.assertEqual(told_error(lot_word, lot, (0,) * 13), (NoText, {}))
        self.assertEqual(told_error(read_lot_word, lot, 5, "2"), (NoBits, {}))

    def test_too_many_is_told_where_all_are_stopped_at_last(self):
        told = (TooMany, {"most": 5000})
        lot = []
        for size, rows in digit_lot("apart"):
            # Behind five letters no letter goes on.
            lot.append((size, rows[:5] + ((1, (None,) * 8),) + rows[6:]))
        self.assertEqual(told_error(sum_best, tuple(lot), 12), told)
        self.assertIsNone(told_error(sum_best, tuple(lot), 4))

    def test_states_alone_may_be_too_many(self):
        # Each machine keeps the letter of another place, so that 8 ** 4 tuples come up.
        def keeper(place):
            rows = [(1, tuple((0, 1 if place else 10 + k) for k in range(8)))]
            rows += [(1, tuple((0, at + 1 if at != place else 10 + k) for k in range(8)))
                     for at in range(1, 10)]
            rows += [(1, ((0, 10 + k),) * 8) for k in range(8)]
            return (8, tuple(rows))
        lot = tuple(keeper(place) for place in range(4))
        self.assertEqual(sum_best(lot, 12), (2 ** 35, 1))
        # With a difference of 0 or 1 at the next letter they are twice as many.
        rows = lot[3][1][:10] + tuple((1, tuple((bits, 10 + k) for bits in (0, 0, 0, 0, 0, 0, 0, 1)))
                                      for k in range(8))
        self.assertEqual(told_error(sum_best, lot[:3] + ((8, rows),), 12), (TooMany, {"most": 5000}))
        self.assertIsNone(told_error(sum_best, lot[:3] + ((8, rows),), 4))


if __name__ == "__main__":
    unittest.main()
