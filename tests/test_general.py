"""Points [2] to [4] and [21]: what holds for all functions of the interface."""

import copy
import importlib
import inspect
import unittest

from keptlengths.errors import LengthError, NoMachine, NoSize, NoText
from keptlengths.machines import is_bits, is_idle, is_machine, is_text, idle, length, trimmed
from keptlengths.sums import is_worths, kept, raised, total, worths
from samples import KNOTTY, ODD, mixed, nested, random_machines

INTERFACE = {
    "machines": {
        "is_machine": ("thing",), "is_text": ("size", "thing"), "is_bits": ("thing",),
        "is_idle": ("machine", "thing"), "length": ("machine", "text"),
        "trimmed": ("machine",), "idle": ("machine",),
    },
    "sums": {
        "total": ("machine",), "worths": ("machine",), "is_worths": ("machine", "thing"),
        "kept": ("machine",), "raised": ("machine",),
    },
}
OF_A_MACHINE = (trimmed, idle, total, worths, kept, raised)
OF_A_MACHINE_AND_MORE = (length, is_idle, is_worths)
OF_A_THING = (is_machine, is_bits)


class Interface(unittest.TestCase):
    def test_names_files_and_arguments(self):
        for module, functions in INTERFACE.items():
            held = importlib.import_module("keptlengths." + module)
            for name, arguments in functions.items():
                with self.subTest(name):
                    function = getattr(held, name)
                    self.assertTrue(inspect.isfunction(function))
                    self.assertEqual(function.__module__, "keptlengths." + module)
                    told = inspect.signature(function).parameters
                    self.assertEqual(tuple(told), arguments)
                    for parameter in told.values():
                        self.assertEqual(parameter.kind, parameter.POSITIONAL_OR_KEYWORD)
                        self.assertIs(parameter.default, parameter.empty)

    def test_errors_are_defined_in_their_file(self):
        held = importlib.import_module("keptlengths.errors")
        for name, value in vars(held).items():
            if isinstance(value, type):
                self.assertEqual(value.__module__, "keptlengths.errors", name)


class Order(unittest.TestCase):
    def test_the_first_wrong_argument_is_told(self):
        for odd in ODD:
            for other in ODD:
                with self.subTest(odd=odd, other=other):
                    with self.assertRaises(NoMachine):
                        length(odd, other)
                    with self.assertRaises(NoMachine):
                        is_idle(odd, other)
                    with self.assertRaises(NoMachine):
                        is_worths(odd, other)
                    with self.assertRaises(NoSize):
                        is_text(odd, other)

    def test_an_argument_is_checked_completely_before_the_next_one(self):
        rows = KNOTTY[1][:-1] + ((9, ((0, 5), (0, 3), (0, 6))),)
        with self.assertRaises(NoMachine):
            length((3, rows), None)
        with self.assertRaises(NoText):
            length(KNOTTY, (2, 0, 0, 3))


class Nothing(unittest.TestCase):
    """Nothing that is handed in is changed, and no state is kept."""

    def test_is_changed(self):
        own = [KNOTTY, [1, [2]], {"a": [3]}, list(KNOTTY), (3, list(KNOTTY[1]))]
        before = copy.deepcopy(own)
        for thing in own:
            for tell in OF_A_THING:
                tell(thing)
            is_text(3, thing)
            is_idle(KNOTTY, thing)
            is_worths(KNOTTY, thing)
            for tell in OF_A_MACHINE:
                try:
                    tell(thing)
                except LengthError:
                    pass
        self.assertEqual(own, before)

    def test_is_kept_between_calls(self):
        first, again = random_machines(60, 8), random_machines(60, 8)
        told = [[tell(machine) for tell in OF_A_MACHINE] for machine in first]
        for machine, results in reversed(list(zip(again, told))):
            self.assertEqual([tell(machine) for tell in OF_A_MACHINE], results)


class Deep(unittest.TestCase):
    def test_no_recursion_error(self):
        for thing in (nested(30), mixed(30), nested(29, [{}]), nested(5000), mixed(5000)):
            for tell in OF_A_THING:
                self.assertIs(tell(thing), False)
            self.assertIs(is_text(2, thing), False)
            self.assertIs(is_idle(KNOTTY, thing), False)
            self.assertIs(is_worths(KNOTTY, thing), False)
            for tell in OF_A_MACHINE:
                with self.assertRaises(NoMachine):
                    tell(thing)
            for tell in OF_A_MACHINE_AND_MORE:
                with self.assertRaises(NoMachine):
                    tell(thing, thing)
            with self.assertRaises(NoText):
                length(KNOTTY, thing)

    def test_wide_things(self):
        wide = (0,) * 2000000
        self.assertIs(is_machine(wide), False)
        self.assertIs(is_machine((3, wide)), False)
        self.assertIs(is_text(1, wide), True)
        self.assertIs(is_text(1, wide[1:] + (1,)), False)
        self.assertIs(is_worths(KNOTTY, wide), False)
        self.assertIs(is_idle(KNOTTY, wide), False)


if __name__ == "__main__":
    unittest.main()
