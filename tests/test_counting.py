"""Point [8]: how many texts have a length, the text at a place, the place of a text."""

import random
import unittest

from keptlengths.counting import many, place_of, text_at
from keptlengths.errors import Idle, NoMachine, NoNumber, NoText, TooMany
from keptlengths.machines import idle, length
from keptlengths.sums import total
from samples import (
    ABOVE, BELOW, EMPTY, JUST, KNOTTY, NEGATIVE, NO_TEXTS, ODD, ONES, SINGULAR, chain, listed,
    plain_length, plain_many, random_machine, random_machines, ring, texts_up_to, told_error,
    wrong_machines,
)

RANDOM = [machine for machine in random_machines(300, 8) if idle(machine) is None]
IDLE = [machine for machine in random_machines(200, 9) if idle(machine) is not None]
# Four states, many steps without bits, no idle ring.
STEEP = (3, (
    (1, ((0, 1), (0, 1), (0, 3))),
    (2, ((0, 2), (0, 3), (1, 0))),
    (1, ((0, 3), (0, 3), (2, 1))),
    (3, ((1, 0), (2, 2), (1, 3))),
))
# All texts of size 8: each letter takes a bit.
ALL = (8, ((1, ((1, 0),) * 8),))
# Only where no text goes through is there a ring without bits.
IDLE_BESIDE = (2, (
    (1, ((1, 0), (0, 1))), (None, ((0, 1), (0, 1))), (3, ((0, 2), (0, 0))),
))


def great_machines(seed, mores, ends, letters):
    source = random.Random(seed)
    return [random_machine(source, 30, size, mores, ends) for size in letters]


class Listed(unittest.TestCase):
    def test_all_texts_of_small_machines(self):
        texts_told = 0
        for machine in RANDOM[:150] + [STEEP, ONES, JUST, BELOW, ABOVE, SINGULAR, KNOTTY, IDLE_BESIDE]:
            for bits, texts in enumerate(listed(machine, 3000)):
                with self.subTest(machine=machine, bits=bits):
                    self.assertEqual(many(machine, bits), len(texts))
                    for place, text in list(enumerate(texts))[:40]:
                        self.assertEqual(text_at(machine, bits, place), text)
                        self.assertEqual(place_of(machine, text), place)
                        texts_told += 1
        self.assertGreater(texts_told, 3000)

    def test_the_places_end_where_the_texts_do(self):
        for machine in RANDOM[:60] + [STEEP, KNOTTY]:
            for bits, texts in enumerate(listed(machine, 3000)):
                if texts:
                    self.assertEqual(text_at(machine, bits, len(texts) - 1), texts[-1])
                for place in (len(texts), len(texts) + 1, -1, 10 ** 40, -10 ** 40):
                    self.assertEqual(told_error(text_at, machine, bits, place), (NoNumber, {}))

    def test_a_text_comes_ahead_of_those_that_begin_with_it(self):
        # 0 and 2 have ends of as many bits, and the step between them takes none.
        machine = (2, ((4, ((0, 1), (1, 0))), (4, ((0, 2), None)), (4, (None, (1, 2)))))
        texts = [(), (0,), (0, 0)]
        self.assertEqual(many(machine, 4), 3)
        self.assertEqual([text_at(machine, 4, place) for place in range(3)], texts)
        self.assertEqual([place_of(machine, text) for text in texts], [0, 1, 2])
        texts = [(0, 0, 1), (1,), (1, 0), (1, 0, 0)]
        self.assertEqual([text_at(machine, 5, place) for place in range(many(machine, 5))], texts)
        self.assertEqual([place_of(machine, text) for text in texts], [0, 1, 2, 3])

    def test_no_text_takes_no_bit(self):
        for machine in (ONES, STEEP, NO_TEXTS, EMPTY, ALL):
            self.assertEqual(many(machine, 0), 0)
            self.assertEqual(told_error(text_at, machine, 0, 0), (NoNumber, {}))

    def test_without_texts(self):
        for machine in (NO_TEXTS, EMPTY):
            for bits in (0, 1, 5, 60, 4000):
                self.assertEqual(many(machine, bits), 0)
                self.assertEqual(told_error(text_at, machine, bits, 0), (NoNumber, {}))

    def test_a_ring_that_no_text_goes_through_is_not_idle(self):
        self.assertEqual([many(IDLE_BESIDE, bits) for bits in range(4)], [0, 1, 1, 1])
        self.assertEqual(text_at(IDLE_BESIDE, 3, 0), (0, 0))
        self.assertEqual(place_of(IDLE_BESIDE, (0, 0)), 0)


class Great(unittest.TestCase):
    def test_all_texts_of_eight_letters(self):
        for bits in (1, 2, 3, 40, 3999, 4000):
            self.assertEqual(many(ALL, bits), 8 ** (bits - 1))
        for place in (0, 1, 8 ** 3999 - 1, 8 ** 3998, 8 ** 3999 // 7):
            text = text_at(ALL, 4000, place)
            self.assertEqual(len(text), 3999)
            number = 0
            for letter in text:
                number = 8 * number + letter
            self.assertEqual(number, place)
            self.assertEqual(place_of(ALL, text), place)
        self.assertEqual(told_error(text_at, ALL, 4000, 8 ** 3999), (NoNumber, {}))

    def test_one_bit_or_two(self):
        machine = (2, ((1, ((1, 0), (2, 0))),))
        now, then = 1, 0
        for bits in range(1, 4001):
            if bits % 400 == 0 or bits < 20:
                self.assertEqual(many(machine, bits), now)
            now, then = now + then, now

    def test_one_text_of_each_length(self):
        self.assertEqual(many(ONES, 4000), 1)
        self.assertEqual(text_at(ONES, 4000, 0), (0,) * 3997)
        self.assertEqual(place_of(ONES, (0,) * 3997), 0)
        machine = ring(30, 4, 17, 9)
        self.assertEqual(many(machine, 4000 // 133 * 133 + 9), 1)
        self.assertEqual(many(machine, 4000 // 133 * 133 + 10), 0)

    def test_chains(self):
        self.assertEqual(many(chain(30, 8, 60, 60), 29 * 60 + 60), 8 ** 29)
        self.assertEqual(many(chain(30, 8, 0, 60), 60), 8 ** 29)
        text = text_at(chain(30, 8, 0, 60), 60, 8 ** 29 - 1)
        self.assertEqual(text, (7,) * 29)
        self.assertEqual(place_of(chain(30, 3, 2, 5), (2,) * 29), 3 ** 29 - 1)
        self.assertEqual(many(ring(30, 0, 1, 1), 4000), 1)
        self.assertEqual(text_at(ring(30, 0, 1, 1), 4000, 0), (0,) * (30 * 3999))

    def test_thirty_states(self):
        machines = great_machines(1, (None, 1, 2, 3, 60), (None, 1, 4), (1, 2, 4))
        machines += great_machines(2, (3, 4, 5), (None, None, 3, 60), (8, 6))
        for machine in machines:
            counts = plain_many(machine, 4000)
            for bits in (1, 2, 5, 60, 61, 777, 3999, 4000):
                self.assertEqual(many(machine, bits), counts[bits])
            source = random.Random(5)
            for bits in (100, 4000):
                if not counts[bits]:
                    continue
                for place in {0, counts[bits] - 1, source.randrange(counts[bits])}:
                    text = text_at(machine, bits, place)
                    self.assertEqual(plain_length(machine, text), bits)
                    self.assertEqual(place_of(machine, text), place)

    def test_texts_side_by_side(self):
        machine = great_machines(3, (None, 1, 2, 3, 3), (None, 1, 4), (3,))[0]
        for bits in (50, 900, 4000):
            number = many(machine, bits)
            for start in (0, number // 3, number - 6):
                texts = [text_at(machine, bits, start + k) for k in range(6)]
                self.assertEqual(texts, sorted(texts))
                self.assertEqual(len(set(texts)), 6)
                self.assertEqual([place_of(machine, text) for text in texts],
                                 list(range(start, start + 6)))

    def test_machines_that_can_not_be_kept(self):
        for machine in (ABOVE, SINGULAR, ALL, chain(20, 8, 0, 1)):
            self.assertTrue(total(machine) is None or total(machine)[0] > total(machine)[1])
            counts = plain_many(machine, 120)
            for bits in (1, 2, 3, 50, 120):
                self.assertEqual(many(machine, bits), counts[bits])


class Errors(unittest.TestCase):
    def test_no_machine(self):
        for name, thing in wrong_machines().items():
            with self.subTest(name):
                for other in (3, None, -1, 4001):
                    self.assertEqual(told_error(many, thing, other), (NoMachine, {}))
                    self.assertEqual(told_error(text_at, thing, other, other), (NoMachine, {}))
                    self.assertEqual(told_error(place_of, thing, other), (NoMachine, {}))

    def test_no_number_for_a_length(self):
        wrong = [odd for odd in ODD if odd != ()]
        for machine in (ONES, NO_TEXTS, NEGATIVE):
            for thing in wrong + [(), -1, 4001, 10 ** 30 - 1, True, False, "3", (3,), [3]]:
                with self.subTest(machine=machine, thing=thing):
                    self.assertEqual(told_error(many, machine, thing), (NoNumber, {}))
                    for place in (0, None, -1):
                        self.assertEqual(told_error(text_at, machine, thing, place), (NoNumber, {}))

    def test_no_number_for_a_place(self):
        for thing in ODD + (1, True, False, "0", (0,), [0], 10 ** 5000, -10 ** 5000):
            self.assertEqual(told_error(text_at, ONES, 3, thing), (NoNumber, {}))
        self.assertEqual(text_at(ONES, 3, 0), ())

    def test_no_text(self):
        for machine in (ONES, NEGATIVE, NO_TEXTS):
            for thing in ODD + ([0], (0, True), (2,), (-1,), "0", (0, (0,))):
                if thing != ():
                    self.assertEqual(told_error(place_of, machine, thing), (NoText, {}))
        self.assertEqual(told_error(place_of, ONES, (1,)), (NoText, {}))
        self.assertEqual(told_error(place_of, ONES, (0, 1, 0)), (NoText, {}))
        self.assertEqual(told_error(place_of, NO_TEXTS, ()), (NoText, {}))
        for machine in RANDOM[:60]:
            for text in texts_up_to(machine[0], 2):
                if plain_length(machine, text) is None:
                    self.assertEqual(told_error(place_of, machine, text), (NoText, {}))

    def test_idle(self):
        for machine in IDLE + [NEGATIVE, ring(30, 0, 0, 60), ring(1, 0, 0, 1)]:
            self.assertEqual(told_error(many, machine, 3), (Idle, {}))
            for place in (0, None, -1, 10 ** 40):
                self.assertEqual(told_error(text_at, machine, 3, place), (Idle, {}))
            for text in texts_up_to(machine[0], 2):
                own = length(machine, text) is not None
                self.assertEqual(told_error(place_of, machine, text), (Idle if own else NoText, {}))

    def test_too_many(self):
        self.assertEqual(place_of(ONES, (0,) * 3997), 0)
        for letters in (3998, 3999, 4000):
            self.assertEqual(told_error(place_of, ONES, (0,) * letters), (TooMany, {"most": 4000}))
        far = ring(30, 60, 60, 60)
        self.assertEqual(told_error(place_of, far, (0,) * 90), (TooMany, {"most": 4000}))
        self.assertEqual(told_error(place_of, far, (0,) * 91), (NoText, {}))

    def test_idle_is_told_ahead_of_too_many(self):
        machine = (2, ((60, ((60, 0), (0, 0))),))
        self.assertEqual(told_error(place_of, machine, (0,) * 100), (Idle, {}))


if __name__ == "__main__":
    unittest.main()
