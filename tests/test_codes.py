"""Point [11]: codes of strangers, rows packed alike, and promises that are broken."""

import itertools
import random
import unittest

from keptlengths.codes import alike, is_alike, is_code, keeps
from keptlengths.errors import NoCode, NoMachine, NoSize
from keptlengths.words import word
from samples import (
    ABOVE, EMPTY, JUST, KNOTTY, NEGATIVE, NO_TEXTS, ODD, ONES, chain, mixed, nested, plain_length,
    random_machines, ring, texts_up_to, told_error, wrong_machines,
)

# The texts of three letters of size 8, ascending.
TEXTS = tuple(itertools.product(range(8), repeat=3))


def code_of(words):
    """A code with these words, for so many texts."""
    return tuple(zip(TEXTS, words))


def joined(words, row):
    return "".join(words[k] for k in row)


def rows_by_bits(words, most):
    """For all bits of at most so many signs the rows of words that have them. No word is empty."""
    found = {"": [()]}
    waiting = [((), "")]
    while waiting:
        row, bits = waiting.pop()
        for k, told in enumerate(words):
            if len(bits + told) <= most:
                found.setdefault(bits + told, []).append(row + (k,))
                waiting.append((row + (k,), bits + told))
    return found


def plain_shortest(words, most):
    """How many bits the shortest two unlike rows have, None if more than so many. No word is empty."""
    ways = {"": 1}
    for size in range(1, most + 1):
        for signs in itertools.product("01", repeat=size):
            bits = "".join(signs)
            ways[bits] = sum(ways[bits[:-len(told)]] for told in words if bits.endswith(told))
            if ways[bits] > 1:
                return size
    return None


def random_words(source, many, longest, signs="01"):
    return ["".join(source.choice(signs) for _ in range(source.randrange(1, longest + 1)))
            for _ in range(many)]


def wrong_codes():
    """Things that are nearly codes of each size, with a word on what is wrong with each."""
    good = (((), "0"), ((0,), "10"))
    wrong = {"a list": list(good), "pair in a list": ([(), "0"],), "text in a list": (([], "0"),)}
    wrong["a pair alone"] = ((), "0")
    for odd in ODD:
        if odd != ():
            wrong["code %r" % (odd,)] = odd
            wrong["text %r" % (odd,)] = ((odd, "0"),)
        wrong["pair %r" % (odd,)] = good + (odd,)
        wrong["letter %r" % (odd,)] = (((), "0"), ((odd,), "1"))
        if odd != "":
            wrong["bits %r" % (odd,)] = (((), "0"), ((0,), odd))
    wrong["too short"] = (((),),)
    wrong["too long"] = (((), "0", "1"),)
    wrong["not ascending"] = good[::-1]
    wrong["a text twice"] = (((0,), "0"), ((0,), "10"))
    wrong["the same pair twice"] = good + good[1:]
    wrong["not ascending far behind"] = tuple((text, "0") for text in TEXTS[:150]) + good[1:]
    wrong["longer ahead of its beginning"] = (((0, 0), "0"), ((0,), "1"))
    wrong["other signs"] = (((), "02"),)
    wrong["401 signs"] = (((), "0" * 401),)
    wrong["20000 signs"] = (((), "0"), ((0,), "01" * 10000))
    wrong["201 pairs"] = code_of(["0"] * 201)
    wrong["letter 8"] = (((8,), "0"),)
    return wrong


class Codes(unittest.TestCase):
    def test_codes(self):
        for code in ((), (((), ""),), (((), "0"), ((0,), "0"), ((0, 0), "")), (((0,) * 4000, "1"),),
                     (((), "0" * 400), ((0,), "1" * 400))):
            for size in range(1, 9):
                self.assertIs(is_code(size, code), True)
        self.assertIs(is_code(8, code_of(["01" * 200] * 200)), True)
        self.assertIs(is_code(8, code_of(["01" * 200] * 201)), False)

    def test_letters_are_those_of_the_size(self):
        for size in range(1, 9):
            for letter in range(10):
                self.assertIs(is_code(size, (((), ""), ((letter,), "0"))), letter < size)

    def test_ascending_as_tuples(self):
        texts = sorted(texts_up_to(2, 3))
        for one, other in itertools.product(texts, repeat=2):
            self.assertIs(is_code(2, ((one, "0"), (other, "0"))), one < other)
        self.assertIs(is_code(2, tuple((text, "1") for text in texts)), True)

    def test_no_codes(self):
        for name, thing in wrong_codes().items():
            with self.subTest(name):
                for size in (8, 3, 1):
                    self.assertIs(is_code(size, thing), False)

    def test_no_size(self):
        for odd in ODD + (0, 9, True, "8", (8,)):
            for thing in ((), (((), "0"),), None, ((),)):
                self.assertEqual(told_error(is_code, odd, thing), (NoSize, {}))


class Alike(unittest.TestCase):
    def test_by_hand(self):
        self.assertIsNone(alike(()))
        self.assertIsNone(alike(code_of(["0"])))
        self.assertIsNone(alike(code_of(["0", "10", "110", "111"])))
        # No word begins another one, but read from the end.
        self.assertIsNone(alike(code_of(["0", "01", "11"])))
        told = alike(code_of(["0", "01", "10"]))
        self.assertEqual(sorted(told), [(0, 2), (1, 0)])
        self.assertEqual(sorted(alike(code_of(["10", "0", "10"]))), [(0,), (2,)])
        # 1 1 1 011 and 1110 1 1 are shorter than 01110 1110 011 and 011 1 011 10011.
        told = alike(code_of(["1", "011", "01110", "1110", "10011"]))
        self.assertEqual(sorted(told), [(0, 0, 0, 1), (3, 0, 0)])

    def test_an_empty_word(self):
        for words in ([""], ["0", ""], ["", "", "1"], ["0", "0", ""], ["0", "01", "10", ""]):
            code = code_of(words)
            one, other = sorted(alike(code))
            self.assertEqual(joined(words, one), "")
            self.assertEqual(joined(words, other), "")
            self.assertNotEqual(one, other)
            at = words.index("")
            self.assertIs(is_alike(code, ((), (at,))), True)
            self.assertIs(is_alike(code, ((at,), ())), True)
            self.assertIs(is_alike(code, ((at,), (at, at))), True)
            self.assertIs(is_alike(code, ((), ())), False)
            self.assertIs(is_alike(code, ((0,), (0,))), False)
        self.assertIs(is_alike(code_of(["0", "0", ""]), ((0,), (1,))), False)
        self.assertIs(is_alike(code_of(["0", ""]), ((0,), (0, 1))), False)

    def test_all_short_rows(self):
        source = random.Random(21)
        found = 0
        for _ in range(1500):
            words = random_words(source, source.randrange(1, 6), source.choice((2, 3, 4, 5)))
            told = alike(code_of(words))
            shortest = plain_shortest(words, 9)
            with self.subTest(words=words):
                if told is None:
                    self.assertIsNone(shortest)
                    continue
                one, other = told
                self.assertNotEqual(one, other)
                self.assertEqual(joined(words, one), joined(words, other))
                bits = len(joined(words, one))
                self.assertEqual(shortest, bits if bits <= 9 else None)
                self.assertIs(is_alike(code_of(words), told), True)
                self.assertIs(is_alike(code_of(words), (other, one)), True)
                found += bits <= 9
        self.assertGreater(found, 300)

    def test_kinds(self):
        told = alike(code_of(["0", "01", "10"]))
        self.assertIs(type(told), tuple)
        self.assertEqual([type(row) for row in told], [tuple, tuple])

    def test_far_longer_than_the_words(self):
        # What is ahead of one word is just behind it in the next one, up to the last word of all.
        for many in (3, 4, 60, 197):
            parts = [format(k, "08b") for k in range(many)]
            words = ["1" * 8, "1" * 8 + parts[0]]
            words += [one + other for one, other in zip(parts, parts[1:])] + [parts[-1]]
            told = alike(code_of(words))
            first = (0,) + tuple(range(2, many + 2, 2))
            second = tuple(range(1, many + 2, 2))
            self.assertEqual(sorted(told), [first, second])
            self.assertEqual(len(joined(words, first)), 8 * (many + 1))
            self.assertIs(is_alike(code_of(words), (second, first)), True)
            self.assertIs(is_alike(code_of(words), (first + (0,), second + (0,))), False)
            self.assertIs(is_alike(code_of(words), ((0,) + first, (0,) + second)), False)
            self.assertIsNone(alike(code_of(words[:-1])))
            self.assertIsNone(alike(code_of(words[:2] + words[3:])))

    def test_two_hundred_pairs(self):
        source = random.Random(22)
        for longest in (400, 60, 12, 3):
            words = random_words(source, 200, longest)
            told = alike(code_of(words))
            if told is not None:
                self.assertEqual(joined(words, told[0]), joined(words, told[1]))
                self.assertIs(is_alike(code_of(words), told), True)
        self.assertIsNone(alike(code_of([word(JUST, text) for text in sorted(texts_up_to(2, 6))])))
        self.assertIsNone(alike(code_of([format(k, "08b") for k in range(200)])))
        self.assertIsNone(alike(code_of(["0" * k + "1" for k in range(200)])))
        # Each word begins the next one, and no row is told before its end.
        self.assertIsNone(alike(code_of(["1" + "0" * k for k in range(200)])))
        self.assertIsNone(alike(code_of(["0" * k + "1" * (400 - k) for k in range(1, 201)])))
        words = ["0" * k for k in range(201, 401)]
        one, other = alike(code_of(words))
        # A row of one word is like no other one, and two unlike words have 403 signs at least.
        self.assertEqual(len(joined(words, one)), 403)
        words = [format(k, "08b") for k in range(199)] + ["00000000" + "11000110" * 49]
        told = alike(code_of(words))
        self.assertEqual(sorted(told), [(0,) + (198,) * 49, (199,)])

    def test_no_code(self):
        for name, thing in wrong_codes().items():
            with self.subTest(name):
                self.assertEqual(told_error(alike, thing), (NoCode, {}))
                for other in (((0,), (1,)), None, thing):
                    self.assertEqual(told_error(is_alike, thing, other), (NoCode, {}))


class IsAlike(unittest.TestCase):
    def test_just_the_shortest_of_all_short_rows(self):
        source = random.Random(23)
        found = 0
        for _ in range(60):
            words = random_words(source, source.randrange(2, 5), 3)
            code = code_of(words)
            by_bits = rows_by_bits(words, 6)
            shortest = plain_shortest(words, 6)
            rows = [row for rows in by_bits.values() for row in rows]
            for one, other in itertools.product(rows[:60], repeat=2):
                bits = joined(words, one)
                holds = one != other and bits == joined(words, other) and len(bits) == shortest
                self.assertIs(is_alike(code, (one, other)), holds)
                found += holds
        self.assertGreater(found, 50)

    def test_what_has_no_form(self):
        code = code_of(["0", "01", "10"])
        self.assertIs(is_alike(code, ((0, 2), (1, 0))), True)
        wrong = [[(0, 2), (1, 0)], ([0, 2], (1, 0)), ((0, 2), [1, 0]), ((0, 2),), ((0, 2), (1, 0), ()),
                 ((0, 2), (True, 0)), ((False, 2), (1, 0)), ((0, 3), (1, 0)), ((0, 2), (1, -3)),
                 ((0, -1), (1, 0)), ((0, "2"), (1, 0)), ((0, (2,)), (1, 0)), (0, 2), ("02", "10"),
                 ((0, 2), (0, 2)), ((), ()), ((0, 1), (1, 2)), ((0, 10 ** 29), (1, 0)), ((0, 2), None)]
        for thing in wrong + list(ODD) + [((0, 2), odd) for odd in ODD] + [(odd, (1, 0)) for odd in ODD]:
            self.assertIs(is_alike(code, thing), False)
        for thing in (((), (0,)), ((0,), (1,)), ((0, 2), (1, 0))):
            self.assertIs(is_alike(code_of(["0", "10"]), thing), False)
            self.assertIs(is_alike((), thing), False)

    def test_rows_of_very_many(self):
        code = code_of(["01" * 200, "10" * 200])
        rows = ((0,) * 1000000, (0,) * 999999 + (1,))
        self.assertIs(is_alike(code, rows), False)
        code = code_of(["", "10" * 200])
        self.assertIs(is_alike(code, ((0,) * 1000000, (0,) * 999999)), True)
        self.assertIs(is_alike(code, ((0,) * 1000000, (0,) * 999999 + (1,))), False)
        self.assertIs(is_alike(code, ((1,) * 1000000, (1,) * 1000000)), False)


def plain_keeps(machine, code):
    for at, (text, bits) in enumerate(code):
        fits = all(letter < machine[0] for letter in text)
        told = plain_length(machine, text) if fits else None
        if told is None or len(bits) > told:
            return at
    return None


class Keeps(unittest.TestCase):
    def test_by_hand(self):
        self.assertIsNone(keeps(JUST, ()))
        self.assertIsNone(keeps(JUST, (((), "0"), ((0,), "100"), ((1,), ""))))
        self.assertEqual(keeps(JUST, (((), "0"), ((0,), "1001"), ((1,), "1111"))), 1)
        self.assertEqual(keeps(JUST, (((), "01"), ((0,), "100"))), 0)
        # (1,) is none of its texts.
        self.assertEqual(keeps(ONES, (((), "000"), ((1,), ""))), 1)
        self.assertEqual(keeps(NO_TEXTS, (((), ""),)), 0)
        self.assertEqual(keeps(EMPTY, (((0,), ""),)), 0)
        self.assertIsNone(keeps(chain(7, 8, 60, 60), (((7,) * 6, "01" * 200),)))

    def test_letters_beyond_the_size_are_none_of_the_machine_s(self):
        for machine in (JUST, ABOVE, KNOTTY):
            self.assertEqual(keeps(machine, (((), ""), ((7,), "0")) if machine[1][0][0] else
                                   (((2,), ""), ((7,), "0"))), 1)
        self.assertEqual(keeps(JUST, (((2,), ""),)), 0)

    def test_random(self):
        source = random.Random(24)
        kinds = set()
        for machine in random_machines(400, 25):
            texts = [text for text in texts_up_to(machine[0], 3) if plain_length(machine, text)]
            texts = sorted(source.sample(texts, min(len(texts), 12)))
            code = []
            for text in texts:
                bits = min(400, max(0, plain_length(machine, text) + source.choice((0, 0, 0, -1, 0))))
                code.append((text, "".join(source.choice("01") for _ in range(bits))))
            if code and source.choice((True, True, False)):
                at = source.randrange(len(code))
                code[at] = (code[at][0], "1" * min(400, plain_length(machine, code[at][0]) + 1))
            if source.choice((True, False)):
                other = tuple(source.randrange(8) for _ in range(4))
                code = sorted(dict(code + [(other, "")]).items())
            code = tuple(code)
            told = keeps(machine, code)
            self.assertEqual(told, plain_keeps(machine, code))
            kinds.add(told if told is None or told < 3 else 3)
        self.assertEqual(kinds, {None, 0, 1, 2, 3})

    def test_words_keep_the_promise(self):
        texts = sorted(texts_up_to(2, 6))
        code = tuple((text, word(JUST, text)) for text in texts)
        self.assertIsNone(keeps(JUST, code))
        self.assertIsNone(keeps(NEGATIVE, (((), "1"), ((0,) * 4000, "0"))))
        self.assertIsNone(keeps(ring(30, 60, 60, 60), (((0,) * 3990, "01" * 200),)))
        for at in range(0, len(code), 9):
            broken = code[:at] + ((code[at][0], code[at][1] + "0"),) + code[at + 1:]
            self.assertEqual(keeps(JUST, broken), at)

    def test_errors(self):
        for name, thing in wrong_machines().items():
            with self.subTest(name):
                for other in ((), None, (((), "0"),)):
                    self.assertEqual(told_error(keeps, thing, other), (NoMachine, {}))
        for name, thing in wrong_codes().items():
            with self.subTest(name):
                self.assertEqual(told_error(keeps, JUST, thing), (NoCode, {}))
        for deep in (nested(30), mixed(30), nested(5000)):
            self.assertEqual(told_error(keeps, JUST, deep), (NoCode, {}))


if __name__ == "__main__":
    unittest.main()
