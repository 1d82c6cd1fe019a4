"""Point [7]: total, worths, kept and raised."""

import unittest
from fractions import Fraction
from math import gcd

from keptlengths.errors import NoMachine
from keptlengths.machines import idle, length, trimmed
from keptlengths.sums import is_worths, kept, raised, total, worths
from samples import (
    ABOVE, BELOW, EMPTY, JUST, KNOTTY, NEGATIVE, NO_TEXTS, NONE2, ODD, ONES, SINGULAR, chain,
    nested, plain_left, plain_worths, random_machines, ring, texts_up_to, wrong_machines,
)

RANDOM = random_machines(400, 7)
BOUNDLESS = (
    SINGULAR, NEGATIVE, ring(1, 0, 0, 1), ring(30, 0, 0, 60),
    # Each letter takes a bit, so that all texts of one number of letters are worth as much.
    (2, ((1, ((1, 1), (1, 1))), (60, ((1, 0), (1, 0))))),
    (8, ((None, ((3, 0),) * 7 + ((3, 1),)), (1, ((3, 0),) * 8))),
    # Two rings that are each worth 2 round: the determinant is above 0.
    (2, ((1, ((0, 0), (0, 0))), (1, NONE2))),
    (4, ((1, ((0, 0), (0, 0), (5, 1), None)), (1, ((0, 1), (0, 1), None, None)))),
    # x1 = 1 / 2 + 2 x1 and x0 = 1 / 2 + 2 x0 + 6 x1 are solved by -1 / 2 and 5 / 2.
    (8, ((1, ((0, 0), (0, 0)) + ((0, 1),) * 6), (1, ((0, 1), (0, 1)) + (None,) * 6))),
    # Only behind the first state is there a ring that passes every bound.
    (2, ((1, ((60, 1), None)), (60, ((1, 1), (1, 1))))),
)


def gone_astray(worth):
    """Other values that a worth may be taken for."""
    top, bottom = worth
    for number in (1, -1, 10 ** 25, 2 ** 5000):
        yield (top + number, bottom)
        yield (top, bottom + number)
    yield from ((2 * top, 2 * bottom), (3 * top, 3 * bottom), (-top, -bottom), (bottom, top))
    yield from ([top, bottom], (top,), (top, bottom, 1), (top, (bottom,)), (str(top), bottom),
                (top, None), (None, bottom), (top, 0), (), top)
    yield from ((True, bottom), (False, bottom), (top, True), (nested(30), bottom))
    yield from ODD


class Total(unittest.TestCase):
    def test_just_one(self):
        for machine in (
                JUST, (1, ((1, ((1, 0),)),)), (8, ((1, ((4, 0),) * 8),)),
                (3, ((None, ((1, 1), (2, 1), (2, 1))), (1, ((2, 0), (2, 1), None)))),
                (4, ((2, ((2, 0), (2, 0), (2, 0), None)),)),
        ):
            self.assertEqual(total(machine), (1, 1))
            self.assertIs(kept(machine), True)
            self.assertEqual(raised(machine), 0)

    def test_below_one(self):
        for machine, told in (
                (BELOW, (1, 2)), (ONES, (1, 4)), (NO_TEXTS, (0, 1)), (EMPTY, (0, 1)),
                ((1, ((60, (None,)),)), (1, 2 ** 60)),
                ((1, ((1, ((2, 0),)),)), (2, 3)),
                ((1, ((1, ((60, 0),)),)), (2 ** 59, 2 ** 60 - 1)),
                ((2, ((2, ((2, 0), (3, 0))),)), (2, 5)),
                # x0 = x1 / 4, x1 = 1 / 8 + x0 / 2 + x2 / 4, x2 = 1 / 2
                ((2, ((None, ((2, 1), None)), (3, ((1, 0), (2, 2))), (1, NONE2))), (1, 14)),
        ):
            self.assertEqual(total(machine), told)
            self.assertIs(kept(machine), True)
            self.assertEqual(raised(machine), 0)

    def test_above_one(self):
        for machine, told, number in (
                (ABOVE, (2, 1), 1),
                ((2, ((1, ((1, 0), (3, 0))),)), (4, 3), 1),
                ((8, ((1, ((4, 0),) * 7 + ((3, 0),)),)), (8, 7), 1),
                ((2, ((1, ((1, 0), (2, 1))), (1, ((1, 1), None)))), (3, 2), 1),
                ((8, ((1, ((3, 0),) * 7 + (None,)),)), (4, 1), 2),
                ((8, ((1, ((3, 0),) * 6 + ((4, 0), None)),)), (8, 3), 2),
                ((8, ((1, ((3, 0),) * 7 + ((4, 0),)),)), (8, 1), 3),
                ((8, ((1, ((3, 0),) * 7 + ((60, 0),)),)), (2 ** 59, 2 ** 57 - 1), 3),
                ((2, ((None, ((0, 1), (1, 1))), (1, ((1, 1), None)))), (3, 2), 1),
                (chain(30, 8, 0, 1), (2 ** 86, 1), 86),
                (chain(30, 7, 0, 1), (7 ** 29, 2), (7 ** 29).bit_length() - 1),
        ):
            self.assertEqual(total(machine), told)
            self.assertIs(kept(machine), False)
            self.assertEqual(raised(machine), number)

    def test_just_beyond_one(self):
        # 1 / 2 + x / 4 + x / 4 and a text of 60 bits more.
        self.assertEqual(total((3, ((1, ((2, 0), (2, 0), (60, 0))),))),
                         (2 ** 59, 2 ** 59 - 1))
        self.assertIs(kept((3, ((1, ((2, 0), (2, 0), (60, 0))),))), False)
        self.assertEqual(raised((3, ((1, ((2, 0), (2, 0), (60, 0))),))), 1)
        # x0 = 1 / 2 + x0 / 4 + x1 / 4, x1 = 1 / 2 + x0 / 4
        machine = (2, ((1, ((2, 0), (2, 1))), (1, ((2, 0), None))))
        self.assertEqual(total(machine), (10, 11))
        self.assertIs(kept(machine), True)

    def test_passing_every_bound(self):
        for machine in BOUNDLESS:
            with self.subTest(machine=machine):
                self.assertIsNone(total(machine))
                self.assertIsNone(worths(machine))
                self.assertIs(kept(machine), False)
                self.assertIsNone(raised(machine))

    def test_what_no_text_goes_through_adds_nothing(self):
        self.assertEqual(total((2, ((3, ((0, 1), None)), (None, ((0, 1), (0, 1)))))), (1, 8))
        self.assertEqual(total((2, ((3, NONE2), (1, ((0, 1), (0, 0)))))), (1, 8))
        self.assertEqual(total((1, ((None, ((0, 0),)), (1, ((0, 1),))))), (0, 1))

    def test_the_greatest_numbers(self):
        self.assertEqual(total(chain(30, 1, 60, 60)), (1, 2 ** 1800))
        self.assertEqual(total(chain(30, 8, 60, 60)), (1, 2 ** (1800 - 87)))
        self.assertEqual(total(ring(30, 60, 60, 60)), (2 ** 1740, 2 ** 1800 - 1))
        self.assertEqual(total(ring(30, 0, 1, 1)), (1, 1))
        self.assertEqual(total(ring(30, 0, 60, 1)), (2 ** 59, 2 ** 60 - 1))

    def test_all_texts_together_come_near_to_it(self):
        for machine in (JUST, BELOW, ABOVE, ONES, KNOTTY):
            texts = texts_up_to(machine[0], 12 if machine[0] == 2 else 8)
            lengths = [length(machine, text) for text in texts]
            near = sum(Fraction(1, 2 ** bits) for bits in lengths if bits is not None)
            whole = Fraction(*total(machine))
            self.assertLess(near, whole)
            self.assertLess(whole - near, Fraction(1, 8))

    def test_no_machine(self):
        for name, thing in wrong_machines().items():
            for tell in (total, worths, kept, raised):
                with self.subTest(name, tell=tell), self.assertRaises(NoMachine):
                    tell(thing)


class Worths(unittest.TestCase):
    def test_by_hand(self):
        self.assertEqual(worths(JUST), ((1, 1),))
        self.assertEqual(worths(NO_TEXTS), ((0, 1),))
        self.assertEqual(worths(EMPTY), ((0, 1),))
        self.assertEqual(worths((2, ((None, ((2, 1), None)), (3, ((1, 0), (2, 2))), (1, NONE2)))),
                         ((1, 14), (2, 7), (1, 2)))
        self.assertEqual(worths(chain(4, 2, 1, 3)), ((1, 8),) * 4)

    def test_of_the_states_of_trimmed(self):
        # x0 = x1 / 2 + x2 / 16, x1 = 1 / 128 + x2 / 4, x2 = 1 / 2 + x0 / 32
        self.assertEqual(worths(KNOTTY), ((50, 509), (8703, 65152), (4097, 8144)))
        self.assertEqual(total(KNOTTY), (50, 509))

    def test_as_worked_out_by_fractions(self):
        found = {True: 0, False: 0}
        for machine in RANDOM:
            told = worths(machine)
            plain = plain_worths(trimmed(machine))
            found[told is None] += 1
            if plain is None:
                self.assertIsNone(told)
                self.assertIsNone(total(machine))
                continue
            self.assertEqual([Fraction(*worth) for worth in told], plain)
            self.assertEqual(len(told), max(1, len(plain_left(machine))))
            self.assertEqual(total(machine), told[0])
            for top, bottom in told:
                self.assertEqual(gcd(top, bottom), 1)
                self.assertTrue(top >= 0 and bottom >= 1)
            self.assertIs(is_worths(machine, told), True)
            self.assertIs(kept(machine), plain[0] <= 1)
            number = raised(machine)
            self.assertLessEqual(plain[0], 2 ** number)
            self.assertTrue(number == 0 or plain[0] > 2 ** (number - 1))
        self.assertGreater(min(found.values()), 50)

    def test_idle_rings_pass_every_bound(self):
        for machine in RANDOM:
            if idle(machine) is not None:
                self.assertIsNone(total(machine))


class IsWorths(unittest.TestCase):
    def test_what_is_changed_in_one_item_is_not(self):
        for machine in (JUST, BELOW, ABOVE, ONES, KNOTTY, NO_TEXTS, EMPTY, chain(5, 3, 2, 4),
                        ring(30, 60, 60, 60), chain(30, 8, 0, 1)):
            told = worths(machine)
            self.assertIs(is_worths(machine, told), True)
            for at in (0, len(told) // 2, len(told) - 1):
                for other in gone_astray(told[at]):
                    # A flag is equal to an integer, but not written alike.
                    if repr(other) != repr(told[at]):
                        with self.subTest(machine=machine, at=at, other=repr(other)[:80]):
                            changed = told[:at] + (other,) + told[at + 1:]
                            self.assertIs(is_worths(machine, changed), False)

    def test_wrong(self):
        for machine in (JUST, KNOTTY, NO_TEXTS) + BOUNDLESS:
            told = worths(machine) or ((1, 1),)
            for odd in ODD + ((), (None,), list(told), told + ((0, 1),), told + told[:1],
                              told[:-1], told[0], (told,), [list(worth) for worth in told]):
                with self.subTest(machine=machine, odd=odd):
                    self.assertIs(is_worths(machine, odd), False)

    def test_none_is_no_tuple_of_worths(self):
        for machine in BOUNDLESS:
            self.assertIs(is_worths(machine, None), False)

    def test_no_fractions_satisfy_what_passes_every_bound(self):
        for machine in BOUNDLESS:
            many = len(trimmed(machine)[1])
            for worth in ((0, 1), (1, 1), (1, 2), (2, 1), (-1, 2), (5, 2), (10 ** 5000, 1)):
                self.assertIs(is_worths(machine, (worth,) * many), False)
        self.assertIs(is_worths(NEGATIVE, ((-1, 2),)), False)
        self.assertIs(is_worths(BOUNDLESS[8], ((5, 2), (-1, 2))), False)

    def test_lowest_terms(self):
        self.assertIs(is_worths(JUST, ((1, 1),)), True)
        self.assertIs(is_worths(JUST, ((2, 2),)), False)
        self.assertIs(is_worths(JUST, ((-1, -1),)), False)
        self.assertIs(is_worths(JUST, ((True, 1),)), False)
        self.assertIs(is_worths(JUST, ((1, True),)), False)
        self.assertIs(is_worths(BELOW, ((2, 4),)), False)
        self.assertIs(is_worths(NO_TEXTS, ((0, 1),)), True)
        self.assertIs(is_worths(NO_TEXTS, ((False, 1),)), False)
        for bottom in (0, 2, -1, 10 ** 3000):
            self.assertIs(is_worths(NO_TEXTS, ((0, bottom),)), False)

    def test_very_large_numbers(self):
        great = 10 ** 5000
        for worth in ((great, 1), (1, great), (great, great), (great + 1, great),
                      (great, great + 1), (great // 2, great), (-great, 1), (great, 0)):
            self.assertIs(is_worths(JUST, (worth,)), False)
            self.assertIs(is_worths(BELOW, (worth,)), False)
            self.assertIs(is_worths(KNOTTY, (worth,) * 3), False)
            self.assertIs(is_worths(ring(30, 60, 60, 60), (worth,) * 30), False)
        machine = ring(30, 60, 60, 60)
        told = worths(machine)
        self.assertGreater(min(bottom for top, bottom in told), 2 ** 1700)
        self.assertIs(is_worths(machine, told), True)

    def test_no_machine(self):
        for name, thing in wrong_machines().items():
            for other in (((1, 1),), None, []):
                with self.subTest(name, other=other), self.assertRaises(NoMachine):
                    is_worths(thing, other)


if __name__ == "__main__":
    unittest.main()
