"""Points [2] to [4] and [21]: what holds for all functions of the interface."""

import copy
import importlib
import inspect
import unittest

from keptlengths.algebra import behind, chosen, filtered, longer, relettered, rows_of, without
from keptlengths.codes import alike, is_alike, is_code, keeps
from keptlengths.compare import excess, is_endless, kin, parting
from keptlengths.counting import many, place_of, text_at
from keptlengths.disks import Disk, lines, noted, opened, rest, rewritten, standing
from keptlengths.errors import (
    BadText, Down, Idle, Kept, LengthError, NoArea, NoBits, NoCode, NoDeed, NoEnd, NoItems, NoLetters, NoLot,
    NoMachine, NoMachines, NoNumber, NoShape, NoSize, NoStand, NoText, NoTexts, NoThing, NotDown, NotKept,
    OtherSize, TooMany,
)
from keptlengths.fitting import fitted, is_shape
from keptlengths.foes import is_verdict, play, proof_lot
from keptlengths.lots import best, is_lot, lot_word, price, read_lot_word, sum_best
from keptlengths.machines import is_bits, is_idle, is_machine, is_text, idle, length, trimmed
from keptlengths.notation import machine_text, read_machine
from keptlengths.stores import Store, is_deed
from keptlengths.sums import is_worths, kept, raised, total, worths
from keptlengths.texts import check, read_thing, sealed, thing_text, unsealed
from keptlengths.words import needed, packed, read_word, unpacked, word
from samples import (
    ABOVE, JUST, KNOTTY, NEGATIVE, ODD, ONES, chain, mixed, nested, plain_length,
    random_machines, told_error,
)

INTERFACE = {
    "machines": {
        "is_machine": ("thing",), "is_text": ("size", "thing"), "is_bits": ("thing",),
        "is_idle": ("machine", "thing"), "length": ("machine", "text"),
        "trimmed": ("machine",), "idle": ("machine",),
    },
    "sums": {
        "total": ("machine",), "worths": ("machine",), "is_worths": ("machine", "thing"),
        "kept": ("machine",), "raised": ("machine",),
    },
    "counting": {
        "many": ("machine", "length"), "text_at": ("machine", "length", "place"),
        "place_of": ("machine", "text"),
    },
    "words": {
        "word": ("machine", "text"), "read_word": ("machine", "bits"),
        "packed": ("machine", "texts"), "unpacked": ("machine", "bits"),
        "needed": ("machine", "texts"),
    },
    "compare": {
        "parting": ("one", "other"), "excess": ("one", "other"), "kin": ("machine",),
        "is_endless": ("one", "other", "thing"),
    },
    "lots": {
        "is_lot": ("thing",), "best": ("lot", "text"), "sum_best": ("lot", "n"),
        "price": ("lot", "n"), "lot_word": ("lot", "text"), "read_lot_word": ("lot", "n", "bits"),
    },
    "codes": {
        "is_code": ("size", "thing"), "is_alike": ("code", "thing"), "alike": ("code",),
        "keeps": ("machine", "code"),
    },
    "foes": {
        "proof_lot": ("machine",), "play": ("machine", "packer"),
        "is_verdict": ("machine", "packer", "thing"),
    },
    "algebra": {
        "longer": ("machine", "number"), "relettered": ("machine", "letters"),
        "filtered": ("machine", "sieve"), "without": ("machine", "sieve"),
        "chosen": ("machines", "more"), "behind": ("one", "other"), "rows_of": ("machine", "more"),
    },
    "fitting": {"is_shape": ("thing",), "fitted": ("shape", "texts")},
    "disks": {
        "lines": ("text",), "rest": ("text",), "standing": ("disk",), "opened": ("disk",),
        "noted": ("disk", "item", "most"), "rewritten": ("disk", "items", "most"),
    },
    "texts": {
        "thing_text": ("thing",), "read_thing": ("text",), "check": ("text",), "sealed": ("thing",),
        "unsealed": ("text",),
    },
    "stores": {"is_deed": ("store", "thing")},
    "notation": {"machine_text": ("machine",), "read_machine": ("text",)},
}
CLASSES = {
    "disks": (Disk, (), {
        "area": ("k",), "append": ("k", "text", "most"), "clear": ("k",), "shorten": ("k", "many"),
        "copy": (), "__eq__": ("other",),
    }),
    "stores": (Store, ("machine",), {
        "do": ("deed",), "cut": ("deed", "most"), "fall": (), "compact": ("most",), "rise": (),
        "texts": (), "text": ("k",), "machine": (), "bits": (), "up": (), "disk": (), "copy": (),
    }),
}
OF_A_MACHINE = (trimmed, idle, total, worths, kept, raised, kin, proof_lot, machine_text)
OF_A_MACHINE_AND_MORE = (
    length, is_idle, is_worths, many, place_of, word, read_word, packed, unpacked, needed, parting,
    excess, keeps, play, longer, relettered, filtered, without, behind, rows_of,
)
OF_A_THING = (is_machine, is_bits, is_lot, is_shape)
# What is told of any value that is none, and what is raised for it.
OF_A_TEXT = (
    (lines, (NoText, {})), (rest, (NoText, {})), (check, (NoText, {})),
    (read_thing, (BadText, {"place": -1})), (unsealed, None), (read_machine, None),
)
OF_A_LOT_AND_MORE = (best, sum_best, price, lot_word)
CODE = (((), "0"), ((0,), "01"), ((1,), "10"))
SHAPE = (2, ((True, (0, 1)), (True, (None, 0))))


def new_disk():
    """A disk that stands, with two items."""
    disk = Disk()
    opened(disk)
    noted(disk, ("a", 1), None)
    noted(disk, None, None)
    return disk


def new_store():
    """A store with two texts."""
    store = Store(JUST)
    store.do(("put", ((), (0, 1))))
    return store


def zeros(text):
    """A packer of the texts of ABOVE."""
    return "0" * plain_length(ABOVE, text)


# Each function that takes more than a thing or a machine, with arguments that it answers.
CALLS = (
    (length, (KNOTTY, (2,))), (is_idle, (NEGATIVE, (0, (0,)))), (is_worths, (JUST, ((1, 1),))),
    (many, (JUST, 5)), (text_at, (JUST, 5, 2)), (place_of, (JUST, (1, 0))),
    (word, (JUST, (1, 0))), (read_word, (JUST, "110100")), (packed, (JUST, ((), (1, 0)))),
    (unpacked, (JUST, "0110100")), (needed, (ABOVE, ((), (1, 0)))), (parting, (JUST, ABOVE)),
    (excess, (JUST, ABOVE)), (excess, (ABOVE, JUST)), (excess, (ONES, JUST)),
    (is_endless, (JUST, ABOVE, ("endless", (), (0,), ()))), (best, ((ONES, JUST), (0,))),
    (sum_best, ((ONES, JUST), 3)), (price, ((NEGATIVE, JUST), 3)),
    (lot_word, ((ONES, JUST), (0, 1))), (read_lot_word, ((ONES, JUST), 2, "000110")),
    (is_code, (2, CODE)), (alike, (CODE,)), (is_alike, (CODE, ((0, 2), (1, 0)))),
    (keeps, (JUST, CODE[:1] + (((0,), "0101"),))), (play, (ABOVE, zeros)),
    (is_verdict, (ABOVE, zeros, ("alike", ((), ()), ((0,),)))), (longer, (KNOTTY, 5)),
    (relettered, (KNOTTY, (2, 0, 1))), (filtered, (JUST, ONES)), (without, (JUST, ONES)),
    (chosen, ((JUST, ONES), 3)), (behind, (JUST, ONES)), (rows_of, (JUST, 3)),
    (fitted, (SHAPE, ((), (0, 1, 1)))), (thing_text, ((1, "a", None),)), (read_thing, ("(1,'a',.)",)),
    (check, ("abc\n",)), (sealed, ((1, "a"),)), (unsealed, (".#15",)), (machine_text, (KNOTTY,)),
    (read_machine, ("size 1\n1 -\n",)), (lines, ("(0,5)#220\n(5,6",)), (rest, ("(0,5)#220\n(5,6",)),
)
# What each of them raises for, and what is raised, where more than one error is due.
DUE = (
    (many, (None, None), NoMachine), (many, (NEGATIVE, 4001), NoNumber), (many, (NEGATIVE, 0), Idle),
    (text_at, (ONES + (0,), 4001, -1), NoMachine), (text_at, (NEGATIVE, -1, -1), NoNumber),
    (text_at, (NEGATIVE, 3, -1), Idle), (text_at, (ONES, 3, 1), NoNumber),
    (place_of, ([], [0]), NoMachine), (place_of, (NEGATIVE, (2,)), NoText),
    (place_of, ((2, ((1, ((0, 0), None)),)), (1,)), NoText), (place_of, (NEGATIVE, (0,)), Idle),
    (place_of, ((2, ((1, ((0, 0), (60, 0))),)), (1,) * 400), Idle),
    (place_of, (ONES, (0,) * 4000), TooMany),
    (word, (None, None), NoMachine), (word, (ABOVE, [0]), NoText), (word, (ABOVE, ()), NotKept),
    (word, ((2, ((1, ((0, 0), None)),)), (1,)), NoText), (word, (ABOVE, (1,) * 4000), NotKept),
    (word, (ONES, (0,) * 4000), TooMany),
    (read_word, (None, None), NoMachine), (read_word, (ABOVE, "2"), NoBits),
    (read_word, (ABOVE, ""), NotKept),
    (packed, (None, None), NoMachine), (packed, (ABOVE, [()]), NoTexts),
    (packed, (ABOVE, ((2,),)), NoTexts), (packed, (ONES, ((0,) * 4000, (1,))), NoTexts),
    (packed, (ABOVE, ((1,) * 4000,)), NotKept), (packed, (ONES, ((), (0,) * 4000)), TooMany),
    (unpacked, (None, None), NoMachine), (unpacked, (ABOVE, b"0"), NoBits),
    (unpacked, (ABOVE, ""), NotKept),
    (needed, (None, None), NoMachine), (needed, (ABOVE, ()), None), (needed, (ABOVE, [()]), NoTexts),
    (parting, (None, KNOTTY), NoMachine), (parting, (KNOTTY, ONES[1]), NoMachine),
    (parting, (KNOTTY, ONES), OtherSize), (excess, (KNOTTY, []), NoMachine),
    (excess, (ONES, KNOTTY), OtherSize), (is_endless, (KNOTTY, None, None), NoMachine),
    (is_endless, (KNOTTY, ONES, None), OtherSize), (kin, (list(ONES),), NoMachine),
    (best, ((ONES, KNOTTY), [0]), NoLot), (best, ((ONES,), [0]), NoText),
    (sum_best, ((), 13), NoLot), (price, ((ONES,) * 5, 13), NoLot), (price, ((ONES,), 13), NoNumber),
    (lot_word, ([ONES], None), NoLot), (lot_word, ((ONES,), (1,)), NoText),
    (read_lot_word, (ONES, 13, "2"), NoLot), (read_lot_word, ((ONES,), 13, "2"), NoNumber),
    (read_lot_word, ((ONES,), 12, "2"), NoBits),
    (is_code, (0, None), NoSize), (is_code, (True, CODE), NoSize), (is_alike, ([], None), NoCode),
    (keeps, (None, None), NoMachine), (keeps, (JUST, list(CODE)), NoCode),
    (proof_lot, ((),), NoMachine), (proof_lot, (JUST,), Kept), (proof_lot, (NEGATIVE,), Idle),
    (play, (None, None), NoMachine), (play, (JUST, None), Kept), (play, (NEGATIVE, None), Idle),
    (is_verdict, (None, None, None), NoMachine),
    (longer, (None, 61), NoMachine), (longer, (chain(2, 2, 1, 60), 61), NoNumber),
    (longer, (chain(2, 2, 1, 60), 1), NoEnd), (relettered, (None, None), NoMachine),
    (relettered, (JUST, [0, 1]), NoLetters), (filtered, (None, KNOTTY), NoMachine),
    (filtered, (JUST, None), NoMachine), (filtered, (JUST, KNOTTY), OtherSize),
    (without, (None, KNOTTY), NoMachine), (without, (JUST, None), NoMachine),
    (without, (JUST, KNOTTY), OtherSize), (chosen, ([JUST, JUST], 61), NoMachines),
    (chosen, ((chain(30, 2, 1, 60),) * 2, 61), NoNumber), (behind, (None, KNOTTY), NoMachine),
    (behind, (JUST, None), NoMachine), (behind, (chain(30, 8, 1, 1), JUST), OtherSize),
    (behind, (chain(30, 8, 1, 1),) * 2, NoSize), (rows_of, (None, 61), NoMachine),
    (rows_of, (chain(30, 8, 1, 60), 61), NoSize), (rows_of, (chain(30, 7, 1, 60), 61), NoNumber),
    (rows_of, (chain(30, 7, 1, 60), 1), NoEnd), (fitted, (None, None), NoShape),
    (fitted, (SHAPE, [()]), NoTexts),
    (lines, (None,), NoText), (rest, ("\t",), NoText), (check, (5,), NoText), (sealed, ([],), NoThing),
    (thing_text, (True,), NoThing), (machine_text, (None,), NoMachine),
    (noted, (Disk(), [], -1), NoItems), (noted, (Disk(), 5, -1), NoNumber), (noted, (Disk(), 5, 0), NoStand),
    (rewritten, (Disk(), [], -1), NoItems), (rewritten, (Disk(), (), -1), NoNumber),
    (rewritten, (Disk(), (), 0), NoStand), (Disk().append, (2, None, -1), NoArea),
    (Disk().append, (1, None, -1), NoText), (Disk().append, (1, "", -1), NoNumber),
    (Disk().shorten, (2, -1), NoArea), (Disk().shorten, (0, 1), NoNumber), (Disk().clear, (None,), NoArea),
    (Store, (None,), NoMachine), (Store, (ABOVE,), NotKept), (new_store().do, (None,), NoDeed),
    (new_store().cut, (None, -1), NoDeed), (new_store().cut, (("put", ((),)), None), NoNumber),
    (new_store().compact, (-1,), NoNumber), (new_store().rise, (), NotDown), (new_store().text, (2,), NoNumber),
)


class Interface(unittest.TestCase):
    def test_names_files_and_arguments(self):
        for module, functions in INTERFACE.items():
            held = importlib.import_module("keptlengths." + module)
            for name, arguments in functions.items():
                with self.subTest(name):
                    function = getattr(held, name)
                    self.assertTrue(inspect.isfunction(function))
                    self.assertEqual(function.__module__, "keptlengths." + module)
                    told = inspect.signature(function).parameters
                    self.assertEqual(tuple(told), arguments)
                    for parameter in told.values():
                        self.assertEqual(parameter.kind, parameter.POSITIONAL_OR_KEYWORD)
                        self.assertIs(parameter.default, parameter.empty)

    def test_classes_and_their_own_methods(self):
        for module, (held, arguments, methods) in CLASSES.items():
            self.assertEqual(held.__module__, "keptlengths." + module)
            self.assertEqual(tuple(inspect.signature(held).parameters), arguments)
            for name, own in methods.items():
                with self.subTest(name):
                    method = vars(held)[name]
                    self.assertTrue(inspect.isfunction(method))
                    told = inspect.signature(method).parameters
                    self.assertEqual(tuple(told), ("self",) + own)
                    self.assertTrue(all(one.default is one.empty for one in told.values()))

    def test_errors_are_defined_in_their_file(self):
        held = importlib.import_module("keptlengths.errors")
        for name, value in vars(held).items():
            if isinstance(value, type):
                self.assertEqual(value.__module__, "keptlengths.errors", name)


class Order(unittest.TestCase):
    def test_the_first_wrong_argument_is_told(self):
        for odd in ODD:
            for other in ODD:
                with self.subTest(odd=odd, other=other):
                    with self.assertRaises(NoMachine):
                        length(odd, other)
                    with self.assertRaises(NoMachine):
                        is_idle(odd, other)
                    with self.assertRaises(NoMachine):
                        is_worths(odd, other)
                    with self.assertRaises(NoSize):
                        is_text(odd, other)

    def test_the_error_that_is_due_first_is_told_of_just_its_class(self):
        for function, arguments, error in DUE:
            with self.subTest(function.__name__, arguments=arguments):
                fields = {"most": 4000} if error is TooMany else {}
                told = None if error is None else (error, fields)
                self.assertEqual(told_error(function, *arguments), told)

    def test_a_store_that_is_down_tells_it_first(self):
        store = new_store()
        store.fall()
        for tell, arguments in ((store.do, (None,)), (store.cut, (None, None)), (store.cut, (("put", ((),)), 0)),
                                (store.fall, ()), (store.compact, (None,)), (store.compact, (-1,))):
            self.assertEqual(told_error(tell, *arguments), (Down, {}))
        self.assertEqual(told_error(store.text, 2), (NoNumber, {}))

    def test_of_two_machines_the_first_is_checked_first(self):
        for odd in ODD:
            for tell, more in ((parting, ()), (excess, ()), (is_endless, (None,)), (filtered, ()),
                               (without, ()), (behind, ())):
                self.assertEqual(told_error(tell, odd, KNOTTY, *more), (NoMachine, {}))
                self.assertEqual(told_error(tell, KNOTTY, odd, *more), (NoMachine, {}))

    def test_an_argument_is_checked_completely_before_the_next_one(self):
        rows = KNOTTY[1][:-1] + ((9, ((0, 5), (0, 3), (0, 6))),)
        with self.assertRaises(NoMachine):
            length((3, rows), None)
        with self.assertRaises(NoText):
            length(KNOTTY, (2, 0, 0, 3))


class Nothing(unittest.TestCase):
    """Nothing that is handed in is changed, and no state is kept."""

    def test_is_changed(self):
        own = [KNOTTY, [1, [2]], {"a": [3]}, list(KNOTTY), (3, list(KNOTTY[1]))]
        before = copy.deepcopy(own)
        for thing in own:
            for tell in OF_A_THING:
                tell(thing)
            is_text(3, thing)
            is_code(3, thing)
            is_idle(KNOTTY, thing)
            is_worths(KNOTTY, thing)
            for tell in OF_A_MACHINE:
                try:
                    tell(thing)
                except LengthError:
                    pass
        self.assertEqual(own, before)

    def test_is_changed_by_calls_with_more_arguments(self):
        things = [KNOTTY, [1, [2]], {"a": [3]}, [[0], [1]], ("endless", [0], [0], [0]),
                  ((0,), [0]), ([0],), [list(ONES)], (JUST, list(ONES)), {0: [ONES]}, [0, 1],
                  ((0, 2), [1, 0]), [[0, 2], [1, 0]], list(CODE), (((), "0"), [(1,), "1"]),
                  ("alike", [()], [(0,)]), (2, list(SHAPE[1])), [()], ["put", [()]], ("put", [()]),
                  ("change", list(JUST)), (1, ["a"]), {"a": ((),)}]
        for function, arguments in CALLS:
            for at in range(len(arguments)):
                for thing in things:
                    own = arguments[:at] + (copy.deepcopy(thing),) + arguments[at + 1:]
                    told_error(function, *own)
                    self.assertEqual(own[at], thing)
                    self.assertEqual(own[:at] + own[at + 1:], arguments[:at] + arguments[at + 1:])

    def test_is_changed_by_disks_and_stores(self):
        things = [[1, [2]], {"a": [3]}, ["put", [()]], ("put", [()]), ("change", list(JUST)), (1, ["a"]), [(0,)]]
        disk, store = new_disk(), new_store()
        areas, told = disk.copy(), store.disk()
        for thing in things:
            own = copy.deepcopy(thing)
            for tell, arguments in (
                    (noted, (disk, own, None)), (rewritten, (disk, own, None)), (noted, (disk, 1, own)),
                    (rewritten, (disk, (), own)), (disk.append, (0, own, None)), (disk.append, (0, "a", own)),
                    (disk.append, (own, "a", None)), (disk.shorten, (0, own)), (disk.clear, (own,)),
                    (disk.area, (own,)), (store.do, (own,)), (store.cut, (own, 3)), (store.compact, (own,)),
                    (store.cut, (("put", ((),)), own)), (store.text, (own,)), (Store, (own,))):
                self.assertIsNotNone(told_error(tell, *arguments))
            self.assertIs(is_deed(store, own), False)
            self.assertIs(disk == own, False)
            self.assertEqual(own, thing)
        self.assertTrue(disk == areas)
        self.assertTrue(store.disk() == told)
        self.assertEqual((store.texts(), store.up()), ([(), (0, 1)], True))

    def test_equal_calls_are_answered_alike(self):
        told = [function(*arguments) for function, arguments in CALLS]
        again = [function(*copy.deepcopy(arguments)) for function, arguments in reversed(CALLS)]
        self.assertEqual(told, again[::-1])
        self.assertNotIn(None, told)

    def test_is_kept_between_calls(self):
        first, again = random_machines(60, 8), random_machines(60, 8)
        tells = [tell for tell in OF_A_MACHINE if tell != proof_lot]
        told = [[tell(machine) for tell in tells] for machine in first]
        for machine, results in reversed(list(zip(again, told))):
            self.assertEqual([tell(machine) for tell in tells], results)


class Deep(unittest.TestCase):
    def test_no_recursion_error(self):
        for thing in (nested(30), mixed(30), nested(29, [{}]), nested(5000), mixed(5000)):
            for tell in OF_A_THING:
                self.assertIs(tell(thing), False)
            self.assertIs(is_text(2, thing), False)
            self.assertIs(is_idle(KNOTTY, thing), False)
            self.assertIs(is_worths(KNOTTY, thing), False)
            for tell in OF_A_MACHINE:
                with self.assertRaises(NoMachine):
                    tell(thing)
            for tell in OF_A_MACHINE_AND_MORE:
                with self.assertRaises(NoMachine):
                    tell(thing, thing)
            with self.assertRaises(NoText):
                length(KNOTTY, thing)
            for tell in OF_A_LOT_AND_MORE:
                self.assertEqual(told_error(tell, thing, thing), (NoLot, {}))
            self.assertEqual(told_error(read_lot_word, thing, thing, thing), (NoLot, {}))
            self.assertEqual(told_error(text_at, thing, thing, thing), (NoMachine, {}))
            self.assertEqual(told_error(is_endless, thing, thing, thing), (NoMachine, {}))
            self.assertEqual(told_error(is_verdict, thing, thing, thing), (NoMachine, {}))
            self.assertEqual(told_error(chosen, thing, thing), (NoMachines, {}))
            self.assertEqual(told_error(fitted, thing, thing), (NoShape, {}))
            self.assertEqual(told_error(is_alike, thing, thing), (NoCode, {}))
            self.assertEqual(told_error(alike, thing), (NoCode, {}))
            self.assertEqual(told_error(is_code, thing, thing), (NoSize, {}))
            self.assertEqual(told_error(Store, thing), (NoMachine, {}))
            for tell, told in OF_A_TEXT:
                self.assertEqual(told_error(tell, thing), told)

    def test_no_recursion_error_of_disks_and_stores(self):
        for thing in (nested(30), mixed(30), nested(29, [{}]), nested(5000), mixed(5000)):
            for tell in (thing_text, sealed):
                self.assertEqual(told_error(tell, thing), (NoThing, {}))
            self.assertEqual(told_error(noted, Disk(), thing, None), (NoItems, {}))
            self.assertEqual(told_error(rewritten, Disk(), (thing,), None), (NoItems, {}))
            self.assertEqual(told_error(Disk().append, 0, thing, None), (NoText, {}))
            self.assertEqual(told_error(Disk().append, thing, "", None), (NoArea, {}))
            store = new_store()
            for deed in (thing, ("put", thing), ("put", (thing,)), ("change", thing), (thing, ((),))):
                self.assertEqual(told_error(store.do, deed), (NoDeed, {}))
                self.assertIs(is_deed(store, deed), False)
        for text in ("(" * 20000, "(" * 30 + ")" * 30, "(" * 29 + "1" + ")" * 29, "((()" * 5000):
            self.assertIn(told_error(read_thing, text), (None, (BadText, {"place": 30}), (BadText, {"place": 4})))
            unsealed(text)
            self.assertEqual(lines(text), [])
            self.assertIsNone(read_machine(text))

    def test_no_recursion_error_for_later_arguments(self):
        for thing in (nested(30), mixed(30), nested(29, [{}]), nested(5000), mixed(5000)):
            for function, error in (
                    (many, NoNumber), (place_of, NoText), (word, NoText), (read_word, NoBits),
                    (packed, NoTexts), (unpacked, NoBits), (needed, NoTexts), (parting, NoMachine),
                    (excess, NoMachine), (keeps, NoCode), (longer, NoNumber), (relettered, NoLetters),
                    (filtered, NoMachine), (without, NoMachine), (behind, NoMachine),
                    (rows_of, NoNumber)):
                self.assertEqual(told_error(function, JUST, thing), (error, {}))
            self.assertEqual(told_error(text_at, JUST, 3, thing), (NoNumber, {}))
            for tell, error in ((best, NoText), (sum_best, NoNumber), (price, NoNumber),
                                (lot_word, NoText)):
                self.assertEqual(told_error(tell, (JUST,), thing), (error, {}))
            self.assertEqual(told_error(read_lot_word, (JUST,), 3, thing), (NoBits, {}))
            self.assertIs(is_code(8, thing), False)
            self.assertEqual(told_error(chosen, (JUST, JUST), thing), (NoNumber, {}))
            self.assertEqual(told_error(fitted, SHAPE, thing), (NoTexts, {}))
            for other in (thing, (thing, (0,)), ((0, 2), (thing, 0)), ((0, 2), thing)):
                self.assertIs(is_alike(CODE, other), False)
            for other in (thing, ("none", thing), ("longer", (thing,)), ("alike", (thing,), ()),
                          ("alike", ((0,),), thing), (thing, ()), (thing, (), ())):
                self.assertIs(is_verdict(ABOVE, zeros, other), False)
            for other in (thing, ("endless", thing, (0,), ()), ("endless", (), (0,), (thing,)),
                          (thing, (), (0,), ())):
                self.assertIs(is_endless(JUST, ABOVE, other), False)

    def test_wide_things(self):
        wide = (0,) * 2000000
        self.assertIs(is_machine(wide), False)
        self.assertIs(is_machine((3, wide)), False)
        self.assertIs(is_text(1, wide), True)
        self.assertIs(is_text(1, wide[1:] + (1,)), False)
        self.assertIs(is_worths(KNOTTY, wide), False)
        self.assertIs(is_idle(KNOTTY, wide), False)
        self.assertIs(is_alike(CODE, (wide, wide)), False)
        self.assertIs(is_alike(CODE, (wide, wide[1:])), False)
        self.assertIs(is_code(8, wide), False)
        self.assertIs(is_shape((2, wide)), False)
        self.assertIs(is_verdict(ABOVE, zeros, ("alike", wide, ())), False)
        self.assertEqual(told_error(fitted, SHAPE, wide), (NoTexts, {}))
        self.assertEqual(told_error(relettered, JUST, wide), (NoLetters, {}))
        self.assertEqual(told_error(chosen, wide, 0), (NoMachines, {}))
        self.assertEqual(read_thing(thing_text(wide)), wide)
        self.assertIs(is_deed(new_store(), ("put", wide)), False)
        self.assertIs(is_deed(new_store(), ("put", (wide,))), False)


if __name__ == "__main__":
    unittest.main()
