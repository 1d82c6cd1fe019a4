"""Points [1] to [5]: what holds between the modules, the main sentence first."""

import random
import unittest

from keptlengths.algebra import filtered, longer, relettered, without
from keptlengths.codes import alike, is_code, keeps
from keptlengths.compare import excess, parting
from keptlengths.errors import Idle, Kept, LengthError, TooMany
from keptlengths.fitting import fitted
from keptlengths.foes import is_verdict, play, proof_lot
from keptlengths.machines import is_machine, length, trimmed
from keptlengths.notation import machine_text, read_machine
from keptlengths.stores import Store
from keptlengths.sums import is_worths, kept, raised, worths
from keptlengths.texts import read_thing, sealed, thing_text, unsealed
from keptlengths.words import needed, word
from samples import plain_length, raised_by, random_machines, texts_up_to, told_error

MACHINES = random_machines(450, 95)


def own_texts(machine, most):
    """The texts of a machine of at most three letters, ascending, at most so many."""
    texts = [text for text in texts_up_to(machine[0], 3) if plain_length(machine, text) is not None]
    return tuple(sorted(texts)[:most])


class MainSentence(unittest.TestCase):
    def test_words_keep_the_promise_and_can_be_told_apart(self):
        found = 0
        for machine in MACHINES:
            if not kept(machine):
                continue
            code = tuple((text, word(machine, text)) for text in own_texts(machine, 60)
                         if length(machine, text) <= 400)
            self.assertTrue(is_code(machine[0], code))
            self.assertIsNone(keeps(machine, code))
            self.assertIsNone(alike(code))
            self.assertEqual(told_error(proof_lot, machine), (Kept, {}))
            found += len(code) > 1
        self.assertGreater(found, 30)

    def test_what_can_not_be_kept_is_found_out(self):
        found = 0
        for machine in MACHINES:
            number = raised(machine)
            if kept(machine) or number is None or raised_by(machine, number) is None:
                continue
            told = told_error(proof_lot, machine)
            if told is not None:
                self.assertIn(told[0], (Idle, TooMany))
                continue
            higher = longer(machine, number)
            self.assertTrue(kept(higher))

            def packer(text):
                return word(higher, text)

            verdict = play(machine, packer)
            self.assertEqual(verdict[0], "longer")
            self.assertTrue(is_verdict(machine, packer, verdict))
            found += 1
        self.assertGreater(found, 10)

    def test_what_takes_no_more_can_be_kept_too(self):
        source = random.Random(96)
        found = 0
        for machine in MACHINES:
            higher = (machine[0], tuple(
                (None if end is None else min(60, end + source.randrange(3)),
                 tuple(None if step is None else (min(60, step[0] + source.randrange(2)), step[1])
                       for step in steps)) for end, steps in machine[1]))
            told = excess(machine, higher)
            self.assertNotIn(told[0], ("lacks", "endless"))
            if told[0] == "most" and kept(machine):
                self.assertLessEqual(told[1], 0)
                self.assertTrue(kept(higher))
                found += 1
        self.assertGreater(found, 30)


class Together(unittest.TestCase):
    def test_machines_that_are_alike(self):
        for machine in MACHINES:
            for told in (trimmed(machine), longer(machine, 0), relettered(machine, tuple(range(machine[0]))),
                         filtered(machine, machine), read_machine(machine_text(machine)),
                         read_thing(thing_text(machine)), unsealed(sealed(machine))[0]):
                self.assertTrue(is_machine(told))
                self.assertIsNone(parting(told, machine))
            self.assertEqual(excess(machine, without(machine, machine)), ("none",))
            self.assertTrue(worths(machine) is None or is_worths(machine, worths(machine)))

    def test_a_store_of_a_machine_that_is_fitted(self):
        shape = (3, ((True, (0, 1, None)), (True, (1, 0, 2)), (False, (0, None, 2))))
        texts = ((0, 1, 2, 0), (), (1, 1, 1), (0, 0, 0, 0, 1), (1, 2, 2, 0))
        machine = fitted(shape, texts)
        store = Store(machine)
        store.do(("put", texts))
        self.assertEqual(store.bits(), needed(machine, texts))
        store.compact(None)
        store.fall()
        store.rise()
        self.assertEqual(store.texts(), list(texts))

    def test_all_errors_are_length_errors(self):
        for tell, arguments in ((Store, (None,)), (read_thing, ("(",)), (proof_lot, (5,)), (alike, ([],))):
            with self.assertRaises(LengthError):
                tell(*arguments)
            with self.assertRaises(ValueError):
                tell(*arguments)


if __name__ == "__main__":
    unittest.main()
