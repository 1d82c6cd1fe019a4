"""Point [16]: shapes, and machines that are fitted to samples."""

import heapq
import itertools
import random
import unittest
from fractions import Fraction

from keptlengths.errors import NoShape, NoTexts
from keptlengths.fitting import fitted, is_shape
from keptlengths.machines import is_machine
from keptlengths.sums import kept
from keptlengths.words import needed, packed, unpacked
from samples import ODD, ONES, mixed, nested, told_error

# One state with all choices of two letters.
ALL2 = (2, ((True, (0, 0)),))
# 0 goes to 1, which ends or goes back; 2 is a state without a choice, 3 just ends.
SOME = (3, ((False, (1, None, 2)), (True, (0, 1, 3)), (False, (None, None, None)), (True, (None,) * 3)))


def random_shape(source, states, size, steps, ends):
    return (size, tuple(
        (source.choice(ends), tuple(source.randrange(states) if source.choice(steps) else None
                                    for _ in range(size)))
        for _ in range(states)))


def texts_of(shape, source, many, most):
    """Random texts of a shape of at most so many letters; none if there are none to be met."""
    found = []
    for _ in range(many * 3):
        state, text = 0, ()
        stop = source.randrange(most + 1)
        told = None
        for _ in range(most):
            end, steps = shape[1][state]
            if end:
                told = text
                if len(text) >= stop:
                    break
            letters = [letter for letter, step in enumerate(steps) if step is not None]
            if not letters:
                break
            letter = source.choice(letters + letters[:1] * 2)
            text, state = text + (letter,), steps[letter]
        if told is not None and len(found) < many:
            found.append(told)
    return tuple(found)


def counts_of(shape, texts):
    """For each state how often each letter is taken there, then how often its end."""
    size, rows = shape
    counts = [[0] * (size + 1) for _ in rows]
    for text in texts:
        state = 0
        for letter in text:
            counts[state][letter] += 1
            state = rows[state][1][letter]
        counts[state][size] += 1
    return counts


def lows(row):
    """For each choice of a row the least bits that it may take: letters in order, then the end."""
    end, steps = row
    many = sum(step is not None for step in steps) + end
    least = [int(many > 1) for step in steps if step is not None]
    return least + [1] * end


def plain_bits(lows, counts, most):
    """Of all tuples of lengths up to the most the one of the least sum, then the least."""
    found = []
    for bits in itertools.product(*[range(low, most + 1) for low in lows]):
        if sum(2 ** (most - k) for k in bits) <= 2 ** most:
            found.append((sum(k * taken for k, taken in zip(bits, counts)), bits))
    return min(found)[1]


def best_bits(lows, counts, most=10):
    """As plain_bits, by the least sums of the later choices for each room that is left."""
    room = 2 ** most
    least = [[0] * (room + 1)]
    for low, taken in zip(reversed(lows), reversed(counts)):
        last = least[-1]
        least.append([min((taken * k + last[left - 2 ** (most - k)] for k in range(low, most + 1)
                           if left >= 2 ** (most - k)), default=10 ** 9) for left in range(room + 1)])
    least.reverse()
    bits, left = (), room
    for at, (low, taken) in enumerate(zip(lows, counts)):
        for k in range(low, most + 1):
            after = left - 2 ** (most - k)
            if after >= 0 and taken * k + least[at + 1][after] == least[at][left]:
                break
        bits, left = bits + (k,), after
    return bits


def huffman_sum(counts):
    """The least sum for choices that are taken so often."""
    waiting = list(counts)
    heapq.heapify(waiting)
    told = 0
    while len(waiting) > 1:
        both = heapq.heappop(waiting) + heapq.heappop(waiting)
        told += both
        heapq.heappush(waiting, both)
    return told


def chosen_bits(machine, state):
    """The bits of all choices at a state: letters in order, then the end."""
    end, steps = machine[1][state]
    return tuple(step[0] for step in steps if step is not None) + (() if end is None else (end,))


def chosen_counts(shape, counts, state):
    """How often each choice at a state is taken: letters in order, then the end."""
    end, steps = shape[1][state]
    own = counts[state]
    return [own[letter] for letter, step in enumerate(steps) if step is not None] + own[-1:] * end


def wrong_shapes():
    """Things that are nearly shapes, with a word on what is wrong with each."""
    row = (True, (0, None))
    wrong = {"a list": [2, (row,)], "too short": (2,), "too long": (2, (row,), 0), "nested": ((2, (row,)),)}
    for odd in ODD:
        wrong["shape %r" % (odd,)] = odd
        wrong["size %r" % (odd,)] = (odd, (row,))
        wrong["rows %r" % (odd,)] = (2, odd)
        wrong["row %r" % (odd,)] = (2, (row, odd))
        wrong["steps %r" % (odd,)] = (2, ((True, odd),))
        if odd is not True and odd is not False:
            wrong["end %r" % (odd,)] = (2, ((odd, (0, None)),))
        if odd is not None:
            wrong["step %r" % (odd,)] = (2, ((True, (0, odd)),))
    wrong["end 0"] = (2, ((0, (0, None)),))
    wrong["end 1"] = (2, ((1, (0, None)),))
    wrong["size 0"] = (0, ((True, ()),))
    wrong["size 9"] = (9, ((True, (None,) * 9),))
    wrong["a flag for the size"] = (True, ((True, (None,)),))
    wrong["no rows"] = (2, ())
    wrong["31 rows"] = (2, (row,) * 31)
    wrong["rows in a list"] = (2, [row])
    wrong["row in a list"] = (2, ([True, (0, None)],))
    wrong["row too short"] = (2, ((True,),))
    wrong["row too long"] = (2, ((True, (0, None), 0),))
    wrong["steps in a list"] = (2, ((True, [0, None]),))
    wrong["too few steps"] = (2, ((True, (0,)),))
    wrong["too many steps"] = (2, ((True, (0, 0, 0)),))
    wrong["state 1 of 1"] = (2, ((True, (0, 1)),))
    wrong["a step of a machine"] = (2, ((True, ((1, 0), None)),))
    wrong["a machine"] = ONES
    wrong["wrong far behind"] = (8, ((True, (None,) * 8),) * 29 + ((True, (None,) * 7 + (30,)),))
    return wrong


class Shapes(unittest.TestCase):
    def test_shapes(self):
        for shape in (ALL2, SOME, (1, ((False, (None,)),)), (8, ((True, (0,) * 8),)),
                      (8, ((False, (29,) * 8),) * 30), (1, ((True, (29,)),) * 30)):
            self.assertIs(is_shape(shape), True)

    def test_random_shapes(self):
        source = random.Random(51)
        for _ in range(200):
            states, size = source.randrange(1, 31), source.randrange(1, 9)
            self.assertIs(is_shape(random_shape(source, states, size, (0, 1), (True, False))), True)

    def test_no_shapes(self):
        for name, thing in wrong_shapes().items():
            with self.subTest(name):
                self.assertIs(is_shape(thing), False)
        for deep in (nested(30), mixed(30), nested(5000), mixed(5000), (2, nested(29))):
            self.assertIs(is_shape(deep), False)


class Fitted(unittest.TestCase):
    def check(self, shape, texts, tell):
        """The machine that is fitted, whose bits at each state are as they are told by the counts."""
        told = fitted(shape, texts)
        counts = counts_of(shape, texts)
        self.assertTrue(is_machine(told))
        self.assertEqual(told[0], shape[0])
        self.assertEqual(len(told[1]), len(shape[1]))
        for state, (row, own) in enumerate(zip(shape[1], told[1])):
            self.assertEqual(row[0], own[0] is not None)
            self.assertEqual(row[1], tuple(None if step is None else step[1] for step in own[1]))
            bits = chosen_bits(told, state)
            if bits:
                taken = chosen_counts(shape, counts, state)
                self.assertEqual(bits, tell(lows(row), taken), (row, taken))
        return told

    def test_by_hand(self):
        # Nothing is taken: the first choice gets one bit, the last two get two.
        self.assertEqual(fitted(ALL2, ()), (2, ((2, ((1, 0), (2, 0))),)))
        # The end once, letter 0 never, letter 1 thrice.
        self.assertEqual(fitted(ALL2, ((1, 1, 1),)), (2, ((2, ((2, 0), (1, 0))),)))
        # The end thrice.
        self.assertEqual(fitted(ALL2, ((), (), (0,))), (2, ((1, ((2, 0), (2, 0))),)))
        self.assertEqual(fitted(SOME, ((0,), (0, 0, 0))), (3, (
            (None, ((1, 1), None, (1, 2))), (1, ((2, 0), (3, 1), (3, 3))), (None, (None,) * 3),
            (1, (None,) * 3))))

    def test_a_single_choice(self):
        self.assertEqual(fitted((1, ((True, (None,)),)), ((),) * 400), (1, ((1, (None,)),)))
        self.assertEqual(fitted((1, ((True, (None,)),)), ()), (1, ((1, (None,)),)))
        # A step alone takes nothing, whether it is taken or not.
        shape = (3, ((False, (None, 1, None)), (True, (None, None, None))))
        for texts in ((), ((1,),), ((1,),) * 9):
            self.assertEqual(fitted(shape, texts), (3, ((None, (None, (0, 1), None)), (1, (None,) * 3))))
        self.assertEqual(fitted((2, ((False, (0, None)),)), ()), (2, ((None, ((0, 0), None)),)))
        self.assertEqual(fitted((2, ((False, (0, 0)),)), ()), (2, ((None, ((1, 0), (1, 0))),)))
        self.assertEqual(fitted((1, ((True, (0,)),)), ()), (1, ((1, ((1, 0),)),)))

    def test_all_tuples_of_lengths(self):
        source = random.Random(52)

        def tell(lows, counts):
            return plain_bits(lows, counts, 5)

        for _ in range(120):
            shape = random_shape(source, source.choice((1, 2, 3)), source.choice((1, 2, 3, 4)),
                                 (0, 1, 1), (True, True, False))
            texts = texts_of(shape, source, source.choice((0, 1, 2, 6, 15)), 8)
            self.check(shape, texts, tell)

    def test_all_counts_of_three_choices(self):
        for counts in itertools.product(range(5), range(5), range(1, 5)):
            # Letters stand within one text, ends are the others.
            texts = ((0,) * counts[0] + (1,) * counts[1],) + ((),) * (counts[2] - 1)
            told = fitted(ALL2, texts)
            self.assertEqual(chosen_bits(told, 0), plain_bits((1, 1, 1), counts, 4))

    def test_up_to_nine_choices(self):
        source = random.Random(53)
        for _ in range(40):
            size = source.choice((5, 7, 8))
            shape = (size, ((True, (0,) * size),))
            counts = [source.choice((0, 0, 1, 1, 2, 3, 5, 8, 13, 40)) for _ in range(size)]
            letters = [letter for letter in range(size) for _ in range(counts[letter])]
            source.shuffle(letters)
            texts = (tuple(letters),) + ((),) * source.choice((0, 0, 3, 30))
            told = self.check(shape, texts, best_bits)
            # Where all are taken it is the least sum of all.
            counts = counts_of(shape, texts)[0]
            if min(counts) > 0:
                self.assertEqual(needed(told, texts), huffman_sum(counts))
        # Each as often as all less frequent ones together, and all alike.
        texts = (tuple(letter for letter in range(8) for _ in range(2 ** letter)),)
        told = self.check((8, ((True, (0,) * 8),)), texts, best_bits)
        self.assertEqual(chosen_bits(told, 0), (8, 7, 6, 5, 4, 3, 2, 1, 8))
        told = self.check((8, ((True, (0,) * 8),)), (), best_bits)
        self.assertEqual(chosen_bits(told, 0), (1, 2, 3, 4, 5, 6, 7, 8, 8))
        told = self.check((8, ((True, (0,) * 8),)), (tuple(range(8)),), best_bits)
        self.assertEqual(chosen_bits(told, 0), (3, 3, 3, 3, 3, 3, 3, 4, 4))

    def test_great_shapes(self):
        source = random.Random(54)
        many = 0
        for _ in range(4):
            shape = random_shape(source, 30, 4, (0, 1, 1), (True, True, False))
            texts = texts_of(shape, source, 100, 40)
            told = self.check(shape, texts, lambda lows, counts: best_bits(lows, counts, 6))
            self.assertTrue(kept(told))
            self.assertEqual(unpacked(told, packed(told, texts)), (texts, needed(told, texts)))
            many += len(texts)
        self.assertGreater(many, 100)

    def test_such_machines_can_be_kept(self):
        source = random.Random(55)
        for _ in range(200):
            shape = random_shape(source, source.choice((1, 3, 8)), source.choice((1, 2, 5)), (0, 1, 1),
                                 (True, True, False))
            told = fitted(shape, texts_of(shape, source, 9, 9))
            self.assertTrue(kept(told))
            for end, steps in told[1]:
                bits = [step[0] for step in steps if step is not None] + [end] * (end is not None)
                self.assertLessEqual(sum(Fraction(1, 2 ** k) for k in bits), 1)

    def test_the_order_of_texts_does_not_matter(self):
        source = random.Random(56)
        shape = random_shape(source, 5, 3, (1, 1, 0), (True, False))
        texts = texts_of(shape, source, 30, 12)
        self.assertTrue(texts)
        self.assertEqual(fitted(shape, texts), fitted(shape, texts[::-1]))
        self.assertEqual(fitted(shape, texts), fitted(shape, texts * 3))

    def test_long_texts(self):
        told = fitted(ALL2, ((0, 1) * 2000,) * 400)
        self.assertEqual(told, (2, ((2, ((1, 0), (2, 0))),)))
        self.assertEqual(fitted(ALL2, ((1,) * 4000,) * 400), (2, ((2, ((2, 0), (1, 0))),)))


class Errors(unittest.TestCase):
    def test_no_shape(self):
        for name, thing in wrong_shapes().items():
            with self.subTest(name):
                for other in ((), None, ((),), [0]):
                    self.assertEqual(told_error(fitted, thing, other), (NoShape, {}))

    def test_no_texts(self):
        wrong = [odd for odd in ODD if odd != ()]
        wrong += [[()], ((), [0]), ((0,), None), ((0, True),), ((3,),), ((), "0"), (0,), {(): ()}, ((2,),)]
        for thing in wrong:
            with self.subTest(thing=thing):
                self.assertEqual(told_error(fitted, ALL2, thing), (NoTexts, {}))
        # State 0 has no end and no step by letter 1; state 2 leads to no end.
        for texts in (((),), ((1,),), ((2,),), ((0, 0),), ((0,), ()), ((0,), (0, 2, 0)), ((2, 0),)):
            self.assertEqual(told_error(fitted, SOME, texts), (NoTexts, {}))
        self.assertEqual(told_error(fitted, SOME, ((0,), (0, 2), (0, 1, 1), (0, 0, 0))), None)
        self.assertEqual(told_error(fitted, (1, ((False, (0,)),)), ((0,) * 4000,)), (NoTexts, {}))
        for deep in (nested(30), mixed(30), nested(5000)):
            self.assertEqual(told_error(fitted, ALL2, deep), (NoTexts, {}))


if __name__ == "__main__":
    unittest.main()
