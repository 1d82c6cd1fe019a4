"""Points [9] and [10]: words, and texts packed one behind another."""

import itertools
import random
import unittest

from keptlengths.counting import place_of, text_at
from keptlengths.errors import NoBits, NoMachine, NoText, NoTexts, NotKept, TooMany
from keptlengths.machines import is_bits, length
from keptlengths.sums import kept, raised
from keptlengths.words import needed, packed, read_word, unpacked, word
from samples import (
    ABOVE, BELOW, EMPTY, JUST, KNOTTY, NEGATIVE, NO_TEXTS, ODD, ONES, SINGULAR, chain, dealt,
    listed, plain_length, plain_many, raised_by, random_machine, random_machines, ring,
    texts_by_length, texts_up_to, told_error, wrong_machines,
)


def kept_machines(many, seed):
    """Random machines that can be kept, if need be with as many bits more as it takes."""
    for machine in random_machines(many, seed):
        if raised(machine) is not None:
            machine = raised_by(machine, raised(machine))
            if machine is not None:
                yield machine


KEPT = [machine for machine in kept_machines(500, 11) if any(listed(machine, 4000))]
# The words are 0, 10, 110, and so on.
UNARY = (1, ((1, ((1, 0),)),))
# Just beyond 1: a text of 60 bits more than JUST.
BEYOND = (3, ((1, ((2, 0), (2, 0), (60, 0))),))
NOT_KEPT = (ABOVE, SINGULAR, NEGATIVE, BEYOND, ring(30, 0, 0, 60))


def great_machines():
    source = random.Random(12)
    found = [random_machine(source, 30, 8, (3, 4, 5, 6), (None, 3, 5)) for _ in range(2)]
    found += [random_machine(source, 30, 2, (None, 0, 1, 2, 3), (None, 4, 60)) for _ in range(5)]
    found += [random_machine(source, 30, 3, (1, 2, 2, 3), (1, 9)) for _ in range(3)]
    found = [machine for machine in found if raised(machine) is not None]
    found = [raised_by(machine, raised(machine)) for machine in found]
    return [machine for machine in found if machine is not None]


GREAT = great_machines()


def first_word_number(counts, bits):
    """How many words of so many bits the shorter ones take."""
    return sum(counts[k] << (bits - k) for k in range(bits))


class Words(unittest.TestCase):
    def test_by_hand(self):
        self.assertEqual([word(UNARY, (0,) * k) for k in range(4)], ["0", "10", "110", "1110"])
        # () has 1 bit, (0,) and (1,) have 3, each pair of letters 5.
        self.assertEqual(word(JUST, ()), "0")
        self.assertEqual(word(JUST, (0,)), "100")
        self.assertEqual(word(JUST, (1,)), "101")
        self.assertEqual([word(JUST, text) for text in ((0, 0), (0, 1), (1, 0), (1, 1))],
                         ["11000", "11001", "11010", "11011"])
        self.assertEqual(word(ONES, ()), "000")
        self.assertEqual(word(ONES, (0,)), "0010")
        self.assertEqual(word(ONES, (0, 0)), "00110")
        self.assertEqual(word((1, ((60, (None,)),)), ()), "0" * 60)

    def test_dealt_one_by_one(self):
        found = 0
        for machine in KEPT + [ONES, JUST, BELOW, KNOTTY]:
            by_length = texts_by_length(machine, 9) or listed(machine, 4000)
            words = dealt(by_length)
            for text in list(words)[::1 + len(words) // 150]:
                with self.subTest(machine=machine, text=text):
                    self.assertEqual(word(machine, text), words[text])
                    for more in ("", "0", "1", "01101", "1" * 40):
                        self.assertEqual(read_word(machine, words[text] + more),
                                         (text, len(words[text])))
                    found += 1
        self.assertGreater(found, 1500)

    def test_all_bits_are_read(self):
        for machine in KEPT[:40] + [ONES, JUST, BELOW, KNOTTY, NO_TEXTS]:
            by_length = texts_by_length(machine, 6)
            if by_length is None:
                continue
            texts = {bits: text for text, bits in dealt(by_length).items()}
            for size in range(7):
                for signs in itertools.product("01", repeat=size):
                    bits = "".join(signs)
                    told = [(texts[bits[:k]], k) for k in range(size + 1) if bits[:k] in texts]
                    self.assertLessEqual(len(told), 1)
                    self.assertEqual(read_word(machine, bits), told[0] if told else None)

    def test_a_word_has_its_text_s_length_and_begins_no_other(self):
        for machine in KEPT[:80]:
            texts = [text for texts in listed(machine, 600) for text in texts]
            words = sorted(word(machine, text) for text in texts[:150])
            for text in texts[:150]:
                self.assertEqual(len(word(machine, text)), plain_length(machine, text))
                self.assertTrue(is_bits(word(machine, text)))
            for one, other in zip(words, words[1:]):
                self.assertFalse(other.startswith(one))

    def test_what_is_cut_is_no_word(self):
        for machine in (UNARY, JUST, KNOTTY, ONES):
            for text in [text for texts in texts_by_length(machine, 9) for text in texts]:
                bits = word(machine, text)
                for k in range(len(bits)):
                    self.assertIsNone(read_word(machine, bits[:k]))

    def test_bits_that_no_word_begins(self):
        self.assertIsNone(read_word(ONES, "1" * 20000))
        self.assertIsNone(read_word(BELOW, "1" * 5000))
        self.assertIsNone(read_word(NO_TEXTS, "01" * 3000))
        self.assertIsNone(read_word(EMPTY, "0"))
        for machine in KEPT:
            self.assertIsNone(read_word(machine, ""))
        for machine in kept_machines(80, 10):
            if not any(listed(machine, 4000)):
                self.assertIsNone(read_word(machine, "0" * 14))
                self.assertEqual(unpacked(machine, "0" * 14), ((), 0))

    def test_the_first_4000_bits(self):
        self.assertEqual(word(UNARY, (0,) * 3999), "1" * 3999 + "0")
        for more in ("", "0", "1", "01" * 8000):
            self.assertEqual(read_word(UNARY, "1" * 3999 + "0" + more), ((0,) * 3999, 4000))
            self.assertIsNone(read_word(UNARY, "1" * 4000 + "0" + more))
        self.assertIsNone(read_word(UNARY, "1" * 4000))
        # The first text is farther off than 4000 bits.
        machine = chain(30, 1, 60, 60)
        self.assertEqual(read_word(machine, "0" * 1800), ((0,) * 29, 1800))


class Great(unittest.TestCase):
    def test_there_are_machines(self):
        self.assertGreater(len(GREAT), 5)
        self.assertTrue(all(kept(machine) for machine in GREAT))

    def test_words_are_read_again(self):
        source = random.Random(13)
        for machine in GREAT:
            counts = plain_many(machine, 4000)
            for bits in (70, 333, 4000):
                if not counts[bits]:
                    continue
                place = source.randrange(counts[bits])
                text = text_at(machine, bits, place)
                told = word(machine, text)
                self.assertEqual(len(told), bits)
                self.assertEqual(int(told, 2), first_word_number(counts, bits) + place)
                self.assertEqual(read_word(machine, told), (text, bits))
                self.assertEqual(read_word(machine, told + "0110"), (text, bits))
                self.assertIsNone(read_word(machine, told[:-1]))

    def test_words_side_by_side(self):
        for machine in GREAT[:3]:
            for bits in (200, 3000):
                words = [word(machine, text_at(machine, bits, place)) for place in range(5)]
                first = int(words[0], 2)
                self.assertEqual([int(told, 2) - first for told in words], list(range(5)))

    def test_any_bits(self):
        source = random.Random(14)
        for machine in GREAT:
            for _ in range(5):
                bits = "".join(source.choice("01") for _ in range(600))
                told = read_word(machine, bits)
                if told is not None:
                    text, many = told
                    self.assertEqual(length(machine, text), many)
                    self.assertEqual(word(machine, text), bits[:many])

    def test_streams(self):
        source = random.Random(15)
        for machine in GREAT:
            counts = plain_many(machine, 300)
            lengths = [bits for bits in range(301) if counts[bits]]
            texts = tuple(text_at(machine, bits, source.randrange(counts[bits]))
                          for bits in source.choices(lengths, k=12))
            bits = packed(machine, texts)
            self.assertEqual(len(bits), needed(machine, texts))
            self.assertEqual(unpacked(machine, bits), (texts, len(bits)))

    def test_a_stream_of_many_long_texts(self):
        machine = GREAT[0]
        texts = tuple(text_at(machine, 4000 - k, k) for k in range(20)) * 20
        bits = packed(machine, texts)
        self.assertEqual(len(bits), sum(range(3981, 4001)) * 20)
        self.assertEqual(unpacked(machine, bits), (texts, len(bits)))


class Streams(unittest.TestCase):
    def test_by_hand(self):
        texts = ((0, 1), (), (1,), (), (0,))
        self.assertEqual(packed(JUST, texts), "11001" + "0" + "101" + "0" + "100")
        self.assertEqual(needed(JUST, texts), 13)
        self.assertEqual(unpacked(JUST, "1100101010100"), (texts, 13))
        self.assertEqual(unpacked(JUST, "11001" + "10"), (((0, 1),), 5))
        self.assertEqual(unpacked(JUST, "00010"), (((), (), ()), 3))
        self.assertEqual(unpacked(ONES, "000" + "1"), (((),), 3))
        self.assertEqual(unpacked(ONES, "1000"), ((), 0))

    def test_none(self):
        for machine in KEPT[:20] + [JUST, NO_TEXTS]:
            self.assertEqual(packed(machine, ()), "")
            self.assertEqual(needed(machine, ()), 0)
            self.assertEqual(unpacked(machine, ""), ((), 0))
        self.assertEqual(unpacked(NO_TEXTS, "0101"), ((), 0))

    def test_words_one_behind_another(self):
        source = random.Random(16)
        for machine in KEPT:
            texts = [text for texts in listed(machine, 600) for text in texts]
            chosen = tuple(source.choice(texts) for _ in range(source.randrange(1, 8)))
            bits = packed(machine, chosen)
            self.assertEqual(bits, "".join(word(machine, text) for text in chosen))
            self.assertEqual(needed(machine, chosen), len(bits))
            self.assertEqual(unpacked(machine, bits), (chosen, len(bits)))

    def test_cut_anywhere(self):
        source = random.Random(17)
        for machine in KEPT[:60]:
            texts = [text for texts in listed(machine, 400) for text in texts]
            chosen = tuple(source.choice(texts) for _ in range(5))
            bits = packed(machine, chosen)
            ends = [needed(machine, chosen[:k]) for k in range(6)]
            for cut in range(len(bits) + 1):
                whole = max(k for k in range(6) if ends[k] <= cut)
                self.assertEqual(unpacked(machine, bits[:cut]), (chosen[:whole], ends[whole]))

    def test_bits_that_are_read_are_packed_to_the_same(self):
        source = random.Random(18)
        for machine in KEPT[:60] + [UNARY, JUST]:
            bits = "".join(source.choice("01") for _ in range(300))
            texts, many = unpacked(machine, bits)
            self.assertEqual(packed(machine, texts), bits[:many])
            self.assertIsNone(read_word(machine, bits[many:]))

    def test_many_texts(self):
        texts = tuple((0,) * (k % 30) for k in range(400))
        bits = packed(UNARY, texts)
        self.assertEqual(unpacked(UNARY, bits), (texts, len(bits)))
        self.assertEqual(unpacked(UNARY, "0" * 20000), (((),) * 20000, 20000))
        self.assertEqual(unpacked(UNARY, "0" + "1" * 5000), (((),), 1))

    def test_needed_of_machines_that_can_not_be_kept(self):
        for machine in NOT_KEPT:
            texts = tuple(text for text in texts_up_to(machine[0], 3)
                          if plain_length(machine, text) is not None)
            self.assertTrue(texts)
            self.assertEqual(needed(machine, texts + texts),
                             2 * sum(plain_length(machine, text) for text in texts))
        self.assertEqual(needed(ring(30, 60, 60, 60), ((0,) * 3990,) * 2), 2 * 3991 * 60)


class Errors(unittest.TestCase):
    def test_no_machine(self):
        for name, thing in wrong_machines().items():
            with self.subTest(name):
                for other in ((), "01", None, ((),), [0]):
                    for tell in (word, read_word, packed, unpacked, needed):
                        self.assertEqual(told_error(tell, thing, other), (NoMachine, {}))

    def test_no_text(self):
        for machine in (ONES, JUST, NO_TEXTS) + NOT_KEPT:
            for thing in ODD + ([0], (0, True), (3,), (-1,), "0", (0, (0,)), ((),)):
                if thing != ():
                    self.assertEqual(told_error(word, machine, thing), (NoText, {}))
        self.assertEqual(told_error(word, ONES, (1,)), (NoText, {}))
        self.assertEqual(told_error(word, NO_TEXTS, ()), (NoText, {}))
        self.assertEqual(told_error(word, ring(30, 0, 0, 1), (0,)), (NoText, {}))
        for machine in KEPT:
            for text in texts_up_to(machine[0], 2):
                if plain_length(machine, text) is None:
                    self.assertEqual(told_error(word, machine, text), (NoText, {}))

    def test_no_bits(self):
        wrong = tuple(odd for odd in ODD if odd != "")
        for machine in (ONES, JUST, NO_TEXTS) + NOT_KEPT:
            for thing in wrong + ("2", "01 ", "0\n", 0, ("0",), ["0"], ()):
                with self.subTest(machine=machine, thing=thing):
                    self.assertEqual(told_error(read_word, machine, thing), (NoBits, {}))
                    self.assertEqual(told_error(unpacked, machine, thing), (NoBits, {}))

    def test_no_texts(self):
        wrong = [odd for odd in ODD if odd != ()]
        wrong += [[()], ((), [0]), ((0,), None), ((0, True),), ((3,),), ((), "0"), (0,), {(): ()}]
        for machine in (ONES, JUST) + NOT_KEPT:
            for thing in wrong:
                with self.subTest(machine=machine, thing=thing):
                    self.assertEqual(told_error(packed, machine, thing), (NoTexts, {}))
                    self.assertEqual(told_error(needed, machine, thing), (NoTexts, {}))
        for texts in (((1,),), ((), (0, 1)), ((0,) * 4000, (1,))):
            self.assertEqual(told_error(packed, ONES, texts), (NoTexts, {}))
            self.assertEqual(told_error(needed, ONES, texts), (NoTexts, {}))
        self.assertEqual(told_error(packed, NO_TEXTS, ((),)), (NoTexts, {}))
        self.assertEqual(told_error(needed, EMPTY, ((),)), (NoTexts, {}))

    def test_not_kept(self):
        for machine in NOT_KEPT + tuple(random_machines(150, 19)):
            if kept(machine):
                continue
            texts = [text for text in texts_up_to(machine[0], 2)
                     if plain_length(machine, text) is not None]
            for text in texts:
                self.assertEqual(told_error(word, machine, text), (NotKept, {}))
            self.assertEqual(told_error(packed, machine, tuple(texts)), (NotKept, {}))
            self.assertEqual(told_error(packed, machine, ()), (NotKept, {}))
            for bits in ("", "0", "01" * 2500):
                self.assertEqual(told_error(read_word, machine, bits), (NotKept, {}))
                self.assertEqual(told_error(unpacked, machine, bits), (NotKept, {}))
        self.assertEqual(word(JUST, (0, 0)), "11000")

    def test_not_kept_is_told_ahead_of_too_many(self):
        for machine in (NEGATIVE, (2, ((1, ((1, 0), (1, 0))),)), (1, ((1, ((0, 0),)),))):
            text = (0,) * 4000
            told = (NotKept, {})
            self.assertEqual(told_error(word, machine, text), told)
            self.assertEqual(told_error(packed, machine, (text,)), told)

    def test_too_many(self):
        told = (TooMany, {"most": 4000})
        for text in ((0,) * 3998, (0,) * 4000):
            self.assertEqual(told_error(word, ONES, text), told)
            self.assertEqual(told_error(packed, ONES, (text,)), told)
            self.assertEqual(told_error(packed, ONES, ((), text, (0,))), told)
        self.assertEqual(len(word(ONES, (0,) * 3997)), 4000)
        self.assertEqual(len(packed(ONES, ((0,) * 3997,) * 2)), 8000)
        self.assertEqual(told_error(word, ring(30, 60, 60, 60), (0,) * 90), told)
        self.assertEqual(place_of(ONES, (0,) * 3997), 0)


if __name__ == "__main__":
    unittest.main()
