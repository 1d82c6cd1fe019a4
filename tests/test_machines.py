"""Point [6]: machines, texts, lengths, trimmed and idle rings."""

import random
import unittest

from keptlengths.errors import NoMachine, NoSize, NoText, TooMany
from keptlengths.machines import is_bits, is_idle, is_machine, is_text, idle, length, trimmed
from samples import (
    ABOVE, BELOW, EMPTY, JUST, KNOTTY, KNOTTY_TRIMMED, NEGATIVE, NO_TEXTS, NONE2, ODD, ONES,
    SINGULAR, chain, nested, plain_left, plain_length, random_machines, ring, texts_up_to,
    wrong_machines,
)

RANDOM = random_machines(300, 6)


class IsMachine(unittest.TestCase):
    def test_machines(self):
        for machine in (ONES, JUST, BELOW, ABOVE, SINGULAR, NEGATIVE, EMPTY, KNOTTY, NO_TEXTS):
            self.assertIs(is_machine(machine), True)
        for machine in RANDOM:
            self.assertIs(is_machine(machine), True)

    def test_all_sizes(self):
        for size in range(1, 9):
            self.assertIs(is_machine((size, ((1, (None,) * size),))), True)
            self.assertIs(is_machine((size, ((1, ((0, 0),) * size),))), True)
        for size in (0, 9, -1, 10 ** 30 - 1):
            self.assertIs(is_machine((size, ((1, (None,) * max(0, min(size, 9))),))), False)

    def test_numbers_of_states(self):
        for states in (1, 2, 29, 30):
            self.assertIs(is_machine(chain(states, 2, 1, 1)), True)
            self.assertIs(is_machine(ring(states, 1, 1, 1)), True)
        for states in (31, 32, 400):
            self.assertIs(is_machine(chain(states, 2, 1, 1)), False)
        self.assertIs(is_machine((1, ())), False)

    def test_ends_and_mores(self):
        for end in range(-2, 65):
            self.assertIs(is_machine((1, ((end, (None,)),))), 1 <= end <= 60)
        for more in range(-2, 65):
            self.assertIs(is_machine((1, ((None, ((more, 0),)),))), 0 <= more <= 60)
        self.assertIs(is_machine((1, ((None, (None,)),))), True)

    def test_states_of_steps(self):
        for state in range(-3, 6):
            rows = ((None, ((0, state),)),) + ((1, (None,)),) * 2
            self.assertIs(is_machine((1, rows)), 0 <= state <= 2)

    def test_wrong(self):
        for name, thing in wrong_machines().items():
            with self.subTest(name):
                self.assertIs(is_machine(thing), False)


class IsText(unittest.TestCase):
    def test_texts(self):
        for size in range(1, 9):
            self.assertIs(is_text(size, ()), True)
            self.assertIs(is_text(size, tuple(range(size))), True)
            self.assertIs(is_text(size, (size - 1,) * 4000), True)
            self.assertIs(is_text(size, (size,)), False)
            self.assertIs(is_text(size, (0,) * 3999 + (size,)), False)
            self.assertIs(is_text(size, (-1,)), False)

    def test_a_tuple_of_more_letters_is_a_text_too(self):
        self.assertIs(is_text(2, (0, 1) * 2500), True)

    def test_wrong(self):
        for odd in ODD:
            with self.subTest(odd=odd):
                self.assertIs(is_text(8, odd), False)
                self.assertIs(is_text(8, (0, odd)), False)
        self.assertIs(is_text(8, [0, 1]), False)
        self.assertIs(is_text(8, (0, True)), False)
        self.assertIs(is_text(8, (False,)), False)
        self.assertIs(is_text(8, "01"), False)
        self.assertIs(is_text(8, (nested(30),)), False)

    def test_no_size(self):
        for size in ODD + (0, 9, 10, (2,), "2", [2]):
            for thing in ((), (0,), None, [0], (True,)):
                with self.subTest(size=size, thing=thing), self.assertRaises(NoSize):
                    is_text(size, thing)


class IsBits(unittest.TestCase):
    def test_bits(self):
        for bits in ("", "0", "1", "01", "10" * 10000):
            self.assertIs(is_bits(bits), True)

    def test_wrong(self):
        wrong = ("2", "01 ", " 01", "0\n", "\n", "0b1", "o", "l", "0" * 19999 + "2", 0, 1, 10)
        for thing in wrong + (("0", "1"), ["0"], (0, 1), {"0": 1}, None, True, False):
            with self.subTest(thing=thing):
                self.assertIs(is_bits(thing), False)
        for odd in ODD:
            self.assertIs(is_bits(odd), odd == "")


class Length(unittest.TestCase):
    def test_by_hand(self):
        self.assertEqual(length(ONES, ()), 3)
        self.assertEqual(length(ONES, (0, 0)), 5)
        self.assertIsNone(length(ONES, (1,)))
        self.assertIsNone(length(ONES, (0, 1, 0)))
        self.assertEqual(length(KNOTTY, (2,)), 4 + 1)
        self.assertEqual(length(KNOTTY, (0,)), 1 + 7)
        self.assertEqual(length(KNOTTY, (0, 1)), 1 + 2 + 1)
        self.assertEqual(length(KNOTTY, (0, 1, 0, 2)), 1 + 2 + 5 + 4 + 1)
        self.assertIsNone(length(KNOTTY, ()))
        self.assertIsNone(length(KNOTTY, (0, 0)))
        self.assertIsNone(length(KNOTTY, (1, 1, 0)))
        self.assertIsNone(length(KNOTTY, (2, 0)))

    def test_the_empty_text(self):
        self.assertEqual(length((1, ((60, (None,)),)), ()), 60)
        self.assertIsNone(length(NO_TEXTS, ()))

    def test_the_steps_are_those_of_the_state_that_is_come_to(self):
        machine = (2, ((1, ((10, 1), (20, 0))), (2, ((30, 0), (40, 1)))))
        self.assertEqual(length(machine, (1,)), 20 + 1)
        self.assertEqual(length(machine, (0,)), 10 + 2)
        self.assertEqual(length(machine, (0, 0)), 10 + 30 + 1)
        self.assertEqual(length(machine, (0, 1, 1)), 10 + 40 + 40 + 2)

    def test_a_text_may_be_ended_where_it_goes_on_nowhere_and_the_other_way(self):
        machine = (1, ((None, ((0, 1),)), (1, (None,))))
        self.assertIsNone(length(machine, ()))
        self.assertEqual(length(machine, (0,)), 1)
        self.assertIsNone(length(machine, (0, 0)))

    def test_many_letters(self):
        self.assertEqual(length(ONES, (0,) * 4000), 4003)
        self.assertEqual(length(ring(30, 60, 60, 60), (0,) * 3990), 3990 * 60 + 60)
        self.assertEqual(length(ring(1, 0, 0, 1), (0,) * 4000), 1)
        self.assertIsNone(length(ring(30, 60, 60, 60), (0,) * 4000))

    def test_as_worked_out_plainly(self):
        source = random.Random(3)
        for machine in RANDOM:
            for _ in range(10):
                text = tuple(source.randrange(machine[0]) for _ in range(source.randrange(6)))
                self.assertEqual(length(machine, text), plain_length(machine, text))

    def test_no_machine(self):
        for name, thing in wrong_machines().items():
            for text in ((), (0,), None, [0]):
                with self.subTest(name, text=text), self.assertRaises(NoMachine):
                    length(thing, text)

    def test_no_text(self):
        for odd in ODD + ([0], (0, True), (2,), (0, 0, 2), (-1,), (0, None), "0", (0, (0,))):
            with self.subTest(odd=odd), self.assertRaises(NoText):
                length(ONES, odd)
        with self.assertRaises(NoText):
            length(ONES, (1, 2))
        with self.assertRaises(NoText):
            length(NO_TEXTS, (0, 0, 2))


class Trimmed(unittest.TestCase):
    def test_by_hand(self):
        self.assertEqual(trimmed(KNOTTY), KNOTTY_TRIMMED)
        self.assertEqual(trimmed(ONES), ONES)
        self.assertEqual(trimmed((1, ((1, (None,)), (2, ((0, 0),))))), (1, ((1, (None,)),)))
        self.assertEqual(trimmed((1, ((1, ((0, 1),)), (None, ((0, 0),))))),
                         (1, ((1, ((0, 1),)), (None, ((0, 0),)))))

    def test_an_end_far_behind(self):
        for states in (1, 2, 30):
            machine = chain(states, 3, 2, 9)
            self.assertEqual(trimmed(machine), machine)
        machine = (1, tuple((9 if k == 0 else None, ((1, k - 1),)) if k else (None, ((1, 29),))
                            for k in range(30)))
        self.assertEqual(trimmed(machine), (1, ((None, (None,)),)))
        machine = (1, ((None, ((1, 29),)), (9, (None,)))
                   + tuple((None, ((1, k - 1),)) for k in range(2, 30)))
        self.assertEqual(trimmed(machine), machine)

    def test_numbered_anew_in_their_order(self):
        rows = [(None, NONE2)] * 10
        rows[0] = (None, ((1, 7), (2, 3)))
        rows[3] = (3, ((3, 5), (4, 9)))
        rows[7] = (None, ((7, 3), (8, 8)))
        rows[9] = (9, NONE2)
        self.assertEqual(trimmed((2, tuple(rows))), (2, (
            (None, ((1, 2), (2, 1))),
            (3, (None, (4, 3))),
            (None, ((7, 1), None)),
            (9, NONE2),
        )))

    def test_without_texts(self):
        for size in range(1, 9):
            told = (size, ((None, (None,) * size),))
            self.assertEqual(trimmed((size, ((None, ((0, 0),) * size),))), told)
            self.assertEqual(trimmed((size, ((None, ((0, 1),) * size),) * 30)), told)
            ended = (size, ((None, (None,) * size), (1, ((0, 0),) * size)))
            self.assertEqual(trimmed(ended), told)
        self.assertEqual(trimmed(EMPTY), NO_TEXTS)
        self.assertEqual(trimmed(NO_TEXTS), NO_TEXTS)

    def test_the_states_are_those_through_which_texts_go(self):
        for machine in RANDOM:
            left = plain_left(machine)
            told = trimmed(machine)
            self.assertIs(is_machine(told), True)
            self.assertEqual(len(told[1]), max(1, len(left)))
            self.assertEqual([row[0] for row in told[1]],
                             [machine[1][k][0] for k in left] or [None])
            self.assertEqual(trimmed(told), told)

    def test_the_texts_stay(self):
        for machine in RANDOM:
            told = trimmed(machine)
            for text in texts_up_to(machine[0], 3 if machine[0] < 4 else 2):
                self.assertEqual(length(told, text), plain_length(machine, text))

    def test_no_machine(self):
        for name, thing in wrong_machines().items():
            with self.subTest(name), self.assertRaises(NoMachine):
                trimmed(thing)


class Idle(unittest.TestCase):
    def test_none(self):
        for machine in (ONES, JUST, BELOW, ABOVE, SINGULAR, NO_TEXTS, KNOTTY, chain(30, 8, 0, 1),
                        ring(30, 0, 1, 1), ring(1, 0, 1, 1), ring(2, 0, 60, 1)):
            self.assertIsNone(idle(machine))

    def test_rings(self):
        self.assertIn(idle(NEGATIVE), ((0, (0,)), (0, (1,))))
        for states in (1, 2, 3, 29, 30):
            machine = ring(states, 0, 0, 60)
            state, letters = idle(machine)
            self.assertIn(state, range(states))
            self.assertEqual(letters, (0,) * states)
            self.assertIs(is_idle(machine, (state, letters)), True)

    def test_rings_without_texts_are_none(self):
        self.assertIsNone(idle(EMPTY))
        self.assertIsNone(idle((1, ((1, (None,)), (1, ((0, 1),))))))
        self.assertIsNone(idle((2, ((1, ((0, 1), None)), (None, ((0, 1), (0, 1)))))))

    def test_the_state_is_that_of_trimmed(self):
        rows = ((None, ((1, 2), None)), (None, NONE2), (3, ((0, 2), (1, 2))))
        self.assertEqual(idle((2, rows)), (1, (0,)))
        self.assertIs(is_idle((2, rows), (1, (0,))), True)
        self.assertIs(is_idle((2, rows), (2, (0,))), False)

    def test_a_ring_beside_others(self):
        rows = ((1, ((0, 1), (1, 0))), (None, ((2, 0), (0, 2))), (None, ((0, 0), (0, 3))),
                (1, ((1, 3), (0, 2))))
        machine = (2, rows)
        state, letters = idle(machine)
        self.assertLessEqual(len(letters), 30)
        self.assertIs(is_idle(machine, (state, letters)), True)
        self.assertIs(is_idle(machine, (0, (0, 1, 0))), True)
        self.assertIs(is_idle(machine, (2, (1, 1))), True)
        self.assertIs(is_idle(machine, (0, (0, 1, 1, 1, 0))), True)
        self.assertIs(is_idle(machine, (0, (1,))), False)
        self.assertIs(is_idle(machine, (0, (0, 1))), False)
        self.assertIs(is_idle(machine, (0, (0, 0))), False)

    def test_of_however_many_letters(self):
        machine = ring(30, 0, 0, 1)
        for many in range(1, 121):
            self.assertIs(is_idle(machine, (7, (0,) * many)), many % 30 == 0)
        self.assertIs(is_idle(machine, (29, (0,) * 30000)), True)
        self.assertIs(is_idle(NEGATIVE, (0, (0, 1) * 2000)), True)

    def test_there_is_one_just_if_steps_without_bits_lead_round(self):
        found = {True: 0, False: 0}
        for machine in RANDOM:
            told = idle(machine)
            rows = trimmed(machine)[1]
            open_states = set(range(len(rows)))
            for _ in rows:
                open_states = {k for k in open_states if any(
                    step is not None and step[0] == 0 and step[1] in open_states
                    for step in rows[k][1])}
            self.assertEqual(told is not None, bool(open_states))
            found[told is not None] += 1
            if told is not None:
                self.assertTrue(1 <= len(told[1]) <= 30)
                self.assertIs(is_idle(machine, told), True)
        self.assertGreater(min(found.values()), 20)

    def test_is_idle_wrong(self):
        for odd in ODD:
            with self.subTest(odd=odd):
                self.assertIs(is_idle(NEGATIVE, odd), False)
                self.assertIs(is_idle(NEGATIVE, (odd, (0,))), False)
                self.assertIs(is_idle(NEGATIVE, (0, odd)), False)
                self.assertIs(is_idle(NEGATIVE, (0, (0, odd))), False)
        for thing in ((0, ()), (0, [0]), [0, (0,)], (0,), (0, (0,), 0), (1, (0,)), (-1, (0,)),
                      (False, (0,)), (0, (False,)), (0, (True,)), (0, (2,)), (0, (-1,)),
                      (0, 0), ((0,), 0), (0, "0")):
            with self.subTest(thing=thing):
                self.assertIs(is_idle(NEGATIVE, thing), False)
        self.assertIs(is_idle(NEGATIVE, (0, (0,))), True)
        self.assertIs(is_idle(ONES, (0, (0,))), False)
        self.assertIs(is_idle(ONES, (0, (1,))), False)
        self.assertIs(is_idle(ONES, None), False)
        self.assertIs(is_idle(EMPTY, (0, (0,))), False)
        self.assertIs(is_idle(NEGATIVE, TooMany((0, (0,)))), False)

    def test_each_step_takes_no_bit(self):
        for at in range(4):
            rows = tuple((1, ((1 if k == at else 0, (k + 1) % 4),)) for k in range(4))
            self.assertIs(is_idle((1, rows), (0, (0,) * 4)), False)
        rows = tuple((1, ((0, (k + 1) % 4),)) for k in range(4))
        self.assertIs(is_idle((1, rows), (0, (0,) * 4)), True)

    def test_no_machine(self):
        for name, thing in wrong_machines().items():
            with self.subTest(name):
                with self.assertRaises(NoMachine):
                    idle(thing)
                for other in ((0, (0,)), None, []):
                    with self.assertRaises(NoMachine):
                        is_idle(thing, other)


if __name__ == "__main__":
    unittest.main()
