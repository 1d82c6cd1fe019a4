"""Point [19]: stores of packed texts, deeds, falls and compacting."""

import copy
import random
import unittest

from keptlengths.disks import Disk, lines, opened, rest
from keptlengths.errors import Down, NoDeed, NoMachine, NoNumber, NotDown, NotKept
from keptlengths.machines import length
from keptlengths.sums import kept
from keptlengths.stores import Store, is_deed
from keptlengths.words import packed, word
from samples import (
    ABOVE, BELOW, EMPTY, JUST, KNOTTY, NEGATIVE, NO_TEXTS, ODD, ONES, SINGULAR, chain, mixed, nested,
    plain_length, random_machines, texts_up_to, told_error, wrong_machines,
)

TWO = [JUST, BELOW, ONES, (2, ((None, ((1, 1), (3, 0))), (1, (None, (2, 0))))), EMPTY]
PUT = ("put", ((0, 1), (), (1,)))
CHANGE = ("change", BELOW)
# Its texts are (), (0,), (0, 0) and so on, each of one bit more.
UNARY = (1, ((1, ((1, 0),)),))


class Plain:
    """What a store is to tell: for each machine item the machine and the texts behind it."""

    def __init__(self, machine):
        self.stretches = [(machine, [])]

    def do(self, deed):
        if deed[0] == "change":
            self.stretches.append((deed[1], []))
        else:
            self.stretches[-1][1].extend(deed[1])

    def texts(self):
        return [text for machine, texts in self.stretches for text in texts]

    def machine(self):
        return self.stretches[-1][0]

    def bits(self):
        return sum(plain_length(machine, text) for machine, texts in self.stretches for text in texts)

    def compact(self):
        self.stretches = [(machine, texts) for machine, texts in self.stretches[:-1] if texts] + self.stretches[-1:]

    def compacted(self):
        """The items of a disk that is compacted."""
        items = []
        for at, (machine, texts) in enumerate(self.stretches):
            if texts or at == len(self.stretches) - 1:
                items.append(("machine", machine))
            if texts:
                items.append(("texts", "".join(word(machine, text) for text in texts), len(texts)))
        return items


def item_of(machine, deed):
    if deed[0] == "change":
        return ("machine", deed[1])
    return ("texts", packed(machine, deed[1]), len(deed[1]))


def items_of(store):
    return opened(store.disk())


def line_signs(store, deed):
    """How many signs the line of a deed has."""
    twin = store.copy()
    before = len(twin.disk().area(0)) + len(twin.disk().area(1))
    twin.do(deed)
    return len(twin.disk().area(0)) + len(twin.disk().area(1)) - before


def random_deed(source, machine):
    if source.randrange(4) == 0:
        return ("change", source.choice(TWO))
    texts = [text for text in texts_up_to(2, 4) if plain_length(machine, text) is not None]
    if not texts:
        return ("change", JUST)
    return ("put", tuple(source.choice(texts) for _ in range(source.choice((1, 1, 2, 5, 40)))))


class Case(unittest.TestCase):
    def check(self, store, plain, is_up):
        """A store tells what is plain to tell."""
        self.assertEqual(store.texts(), plain.texts())
        self.assertIs(type(store.texts()), list)
        self.assertEqual(store.machine(), plain.machine())
        self.assertEqual(store.bits(), plain.bits())
        self.assertIs(store.up(), is_up)
        many = len(plain.texts())
        for k in (0, many // 2, many - 1):
            if 0 <= k < many:
                self.assertEqual(store.text(k), plain.texts()[k])
        self.assertEqual(told_error(store.text, many), (NoNumber, {}))
        self.assertEqual(told_error(store.text, -1), (NoNumber, {}))


class NewStores(Case):
    def test_new_stores(self):
        for machine in TWO + [KNOTTY, NO_TEXTS, UNARY, chain(30, 8, 60, 60)]:
            store = Store(machine)
            self.check(store, Plain(machine), True)
            self.assertEqual(items_of(store), [("machine", machine)])
            disk = store.disk()
            self.assertIsInstance(disk, Disk)
            self.assertEqual(lines(disk.area(0)), [("area", 0), ("whole",), ("item", ("machine", machine))])
            self.assertEqual((rest(disk.area(0)), disk.area(1)), (len(disk.area(0)), ""))

    def test_errors(self):
        for name, thing in wrong_machines().items():
            self.assertEqual(told_error(Store, thing), (NoMachine, {}), name)
        for machine in [ABOVE, SINGULAR, NEGATIVE] + random_machines(60, 81):
            self.assertEqual(told_error(Store, machine), None if kept(machine) else (NotKept, {}))
        for deep in (nested(30), mixed(30), nested(5000)):
            self.assertEqual(told_error(Store, deep), (NoMachine, {}))


class Deeds(Case):
    def test_by_hand(self):
        store = Store(JUST)
        self.assertIsNone(store.do(PUT))
        self.assertEqual(items_of(store), [("machine", JUST), ("texts", "11001" + "0" + "101", 3)])
        self.assertEqual((store.texts(), store.bits()), ([(0, 1), (), (1,)], 9))
        self.assertIsNone(store.do(CHANGE))
        self.assertEqual((store.texts(), store.bits(), store.machine()), ([(0, 1), (), (1,)], 9, BELOW))
        store.do(("put", ((1,), ())))
        self.assertEqual(items_of(store)[2:], [("machine", BELOW), ("texts", packed(BELOW, ((1,), ())), 2)])
        self.assertEqual((store.texts(), store.bits()), ([(0, 1), (), (1,), (1,), ()], 9 + 4 + 2))
        self.assertEqual([store.text(k) for k in range(5)], store.texts())

    def test_random_deeds(self):
        source = random.Random(82)
        for _ in range(12):
            machine = source.choice(TWO)
            store, plain = Store(machine), Plain(machine)
            items = [("machine", machine)]
            for _ in range(12):
                deed = random_deed(source, plain.machine())
                items.append(item_of(plain.machine(), deed))
                store.do(deed)
                plain.do(deed)
                self.assertEqual(items_of(store), items)
            self.check(store, plain, True)

    def test_is_deed(self):
        store = Store(JUST)
        good = [PUT, CHANGE, ("change", JUST), ("change", EMPTY), ("put", ((),)), ("put", ((0,),) * 40),
                ("put", ((1,) * 1999,)), ("put", ((1,) * 1999,) * 40)]
        wrong = [["put", ((),)], ("put", [()]), ("put", ()), ("put", ((),) * 41), ("put",), ("put", ((),), ()),
                 ("put", ((2,),)), ("put", ((True,),)), ("put", ([0],)), ("put", (0,)), ("put", ((0, (0,)),)),
                 ("put", ((1,) * 2000,)), ("put", ((), (1,) * 2000)), ("change", KNOTTY), ("change", ABOVE),
                 ("change", SINGULAR), ("change", NEGATIVE), ("change", list(JUST)), ("change",), ("put", JUST),
                 ("change", ((),)), ("change", JUST, JUST), ("Put", ((),)), ("", ((),)), (None, ((),)),
                 (True, JUST), (("put",), ((),)), PUT + CHANGE, (PUT,), ("texts", "0", 1), ("machine", JUST), PUT[1]]
        for state in ("up", "down"):
            for thing in good:
                self.assertIs(is_deed(store, thing), True)
            for thing in wrong + list(ODD) + [("put", odd) for odd in ODD] + [("change", odd) for odd in ODD]:
                self.assertIs(is_deed(store, thing), False, thing)
            for odd in ODD:
                self.assertIs(is_deed(store, (odd, ((),))), False)
                self.assertIs(is_deed(store, ("put", ((), odd))), False)
            for name, thing in wrong_machines().items():
                self.assertIs(is_deed(store, ("change", thing)), False, name)
            for deep in (nested(30), mixed(30), nested(5000), ("put", nested(29)), ("change", nested(5000))):
                self.assertIs(is_deed(store, deep), False)
            if state == "up":
                for thing in wrong + list(ODD) + [("put", odd) for odd in ODD]:
                    for most in (0, None, -1):
                        self.assertEqual(told_error(store.cut, thing, most), (NoDeed, {}))
                    self.assertEqual(told_error(store.do, thing), (NoDeed, {}))
                self.check(store, Plain(JUST), True)
                store.fall()

    def test_deeds_for_the_store_as_it_stands(self):
        store = Store(JUST)
        self.assertIs(is_deed(store, ("put", ((1,),))), True)
        store.do(("change", ONES))
        self.assertIs(is_deed(store, ("put", ((1,),))), False)
        self.assertIs(is_deed(store, ("put", ((0,),))), True)
        store.cut(("change", JUST), 20)
        self.assertIs(is_deed(store, ("put", ((1,),))), False)
        store.rise()
        store.cut(("change", JUST), 999)
        self.assertIs(is_deed(store, ("put", ((1,),))), True)
        store.rise()
        store.do(("put", ((1,),)))
        store.do(("change", EMPTY))
        self.assertIs(is_deed(store, ("put", ((),))), False)
        self.assertEqual(store.texts(), [(1,)])

    def test_four_thousand_bits(self):
        store = Store(UNARY)
        self.assertIs(is_deed(store, ("put", ((0,) * 3999,))), True)
        self.assertIs(is_deed(store, ("put", ((0,) * 4000,))), False)
        self.assertIs(is_deed(store, ("put", ((), (0,) * 4000))), False)
        self.assertEqual(told_error(store.do, ("put", ((0,) * 4000,))), (NoDeed, {}))
        store.do(("put", ((0,) * 3999, (), (0,))))
        self.assertEqual(store.texts(), [(0,) * 3999, (), (0,)])
        self.assertEqual(store.bits(), 4000 + 1 + 2)
        store.do(("put", ((0,) * 3999,) * 40))
        self.assertEqual(store.bits(), 4003 + 160000)
        self.assertEqual(store.text(42), (0,) * 3999)
        store.compact(None)
        self.assertEqual(store.texts(), [(0,) * 3999, (), (0,)] + [(0,) * 3999] * 40)
        far = chain(30, 1, 60, 60)
        store.do(("change", far))
        store.do(("put", ((0,) * 29,)))
        self.assertEqual(store.bits(), 164003 + 1800)

    def test_bits_are_the_sum_of_the_lengths(self):
        store = Store(JUST)
        for machine in (JUST, BELOW, ONES):
            store.do(("change", machine))
            for k in range(5):
                before = store.bits()
                store.do(("put", ((0,) * k,)))
                self.assertEqual(store.bits(), before + length(machine, (0,) * k))


class Cuts(Case):
    def test_a_deed_cut_anywhere(self):
        for first, deeds in ((JUST, []), (JUST, [PUT, CHANGE]), (ONES, [("put", ((0,),) * 3)])):
            store, plain = Store(first), Plain(first)
            for deed in deeds:
                store.do(deed)
                plain.do(deed)
            for deed in (("put", ((), (0,), (0, 0))), ("change", BELOW), ("change", first), ("put", ((0,),))):
                whole = line_signs(store, deed)
                newer = copy.deepcopy(plain)
                newer.do(deed)
                for most in list(range(whole + 3)) + [10 ** 30 - 1]:
                    twin = store.copy()
                    self.assertIsNone(twin.cut(deed, most))
                    told = newer if most >= whole else plain
                    self.check(twin, told, False)
                    self.assertIsNone(twin.rise())
                    self.check(twin, told, True)
                    self.assertEqual(len(twin.disk().area(0)), len(store.disk().area(0)) + whole * (most >= whole))
                    if most % 7 == 0:
                        after = copy.deepcopy(told)
                        for later in (("put", ((0, 0),)), ("change", JUST), ("put", ((1,), ()))):
                            twin.do(later)
                            after.do(later)
                        self.check(twin, after, True)
                self.check(store, plain, True)

    def test_signs_are_written_as_many_as_told(self):
        store = Store(JUST)
        before = store.disk().area(0)
        for most in (0, 1, 17):
            twin = store.copy()
            twin.cut(PUT, most)
            self.assertEqual(len(twin.disk().area(0)), len(before) + most)
            self.assertEqual(twin.disk().area(0)[:len(before)], before)

    def test_compacting_cut_anywhere(self):
        store, plain = Store(JUST), Plain(JUST)
        deeds = [PUT, ("put", ((),)), CHANGE, ("change", ONES), ("put", ((0,), (0, 0))), ("put", ((),))]
        for deed in deeds:
            store.do(deed)
            plain.do(deed)
        elder = items_of(store)
        compacted = store.copy()
        compacted.compact(None)
        whole = len(compacted.disk().area(1))
        for most in list(range(whole + 3)) + [10 ** 30 - 1]:
            twin = store.copy()
            self.assertIsNone(twin.compact(most))
            self.check(twin, plain, False)
            self.assertEqual(len(twin.disk().area(1)), min(most, whole))
            twin.rise()
            self.assertEqual(items_of(twin), plain.compacted() if most >= whole else elder)
            if most % 9 == 0 or most >= whole:
                self.check(twin, plain, True)
                twin.do(("put", ((0,),)))
                self.assertEqual(twin.texts(), plain.texts() + [(0,)])
        self.check(store, plain, True)

    def test_a_fall_amid_compacting_and_again(self):
        store, plain = Store(JUST), Plain(JUST)
        source = random.Random(83)
        for _ in range(30):
            deed = random_deed(source, plain.machine())
            store.do(deed)
            plain.do(deed)
            most = source.choice((None, 0, 30, 200, 10 ** 6))
            store.compact(most)
            self.assertIs(store.up(), most is None)
            if most is not None:
                store.rise()
            self.assertEqual((store.texts(), store.machine()), (plain.texts(), plain.machine()))
        self.check(store, plain, True)

    def test_no_number(self):
        store = Store(JUST)
        for odd in ODD + (-1, True, "1", (1,), None, 1.5):
            if odd != 10 ** 30 - 1:
                self.assertEqual(told_error(store.cut, PUT, odd), (NoNumber, {}))
                if odd is not None:
                    self.assertEqual(told_error(store.compact, odd), (NoNumber, {}))
        self.check(store, Plain(JUST), True)
        store.do(PUT)
        for odd in ODD + (3, -1, True, "1", (1,), None, 10 ** 29):
            self.assertEqual(told_error(store.text, odd), (NoNumber, {}))


class Compacting(Case):
    def test_items(self):
        source = random.Random(84)
        for _ in range(15):
            machine = source.choice(TWO)
            store, plain = Store(machine), Plain(machine)
            for _ in range(source.randrange(14)):
                deed = random_deed(source, plain.machine())
                store.do(deed)
                plain.do(deed)
            self.assertIsNone(store.compact(None))
            self.assertEqual(items_of(store), plain.compacted())
            plain.compact()
            self.check(store, plain, True)
            before = items_of(store)
            store.compact(None)
            self.assertEqual(items_of(store), before)
            store.fall()
            store.rise()
            self.check(store, plain, True)

    def test_stretches_without_texts(self):
        store = Store(JUST)
        for machine in (BELOW, ONES, JUST):
            store.do(("change", machine))
        store.compact(None)
        self.assertEqual(items_of(store), [("machine", JUST)])
        store.do(PUT)
        store.do(("change", BELOW))
        store.do(("change", JUST))
        store.do(("put", ((),)))
        store.do(("change", JUST))
        store.do(("change", ONES))
        store.compact(None)
        self.assertEqual(items_of(store), [("machine", JUST), ("texts", packed(JUST, PUT[1]), 3), ("machine", JUST),
                                           ("texts", "0", 1), ("machine", ONES)])
        self.assertEqual(store.texts(), list(PUT[1]) + [()])

    def test_generations(self):
        store = Store(JUST)
        for generation in range(1, 6):
            store.do(("put", ((),)))
            store.compact(None)
            self.assertEqual(lines(store.disk().area(generation % 2))[0], ("area", generation))
            self.assertEqual(items_of(store), [("machine", JUST), ("texts", "0" * generation, generation)])


class Falls(Case):
    def test_up_and_down(self):
        store = Store(JUST)
        store.do(PUT)
        plain = Plain(JUST)
        plain.do(PUT)
        self.assertEqual(told_error(store.rise), (NotDown, {}))
        self.assertIsNone(store.fall())
        self.check(store, plain, False)
        before = store.disk()
        for tell, arguments in (
                (store.fall, ()), (store.do, (PUT,)), (store.do, (None,)), (store.cut, (PUT, 5)),
                (store.cut, (None, None)), (store.cut, (PUT, -1)), (store.compact, (None,)),
                (store.compact, (5,)), (store.compact, (-1,)), (store.compact, ("a",))):
            self.assertEqual(told_error(tell, *arguments), (Down, {}))
        self.assertTrue(before == store.disk())
        self.check(store, plain, False)
        self.assertIsNone(store.rise())
        self.assertEqual(told_error(store.rise), (NotDown, {}))
        self.check(store, plain, True)

    def test_down_is_told_of_any_value(self):
        store = Store(JUST)
        store.fall()
        for odd in ODD + (nested(5000),):
            self.assertEqual(told_error(store.do, odd), (Down, {}))
            self.assertEqual(told_error(store.cut, odd, odd), (Down, {}))
            self.assertEqual(told_error(store.compact, odd), (Down, {}))

    def test_refused_deeds_change_nothing(self):
        store = Store(JUST)
        store.do(PUT)
        before = store.disk()
        for tell, arguments in (
                (store.do, (None,)), (store.cut, (None, None)), (store.cut, (PUT, None)), (store.compact, (-1,)),
                (store.rise, ()), (store.text, (3,)), (store.do, (("put", ()),)), (store.cut, (PUT, True))):
            self.assertIsNotNone(told_error(tell, *arguments))
            self.assertTrue(before == store.disk())
            self.assertIs(store.up(), True)


class Copies(Case):
    def test_copies_go_on_by_themselves(self):
        store, plain = Store(JUST), Plain(JUST)
        store.do(PUT)
        plain.do(PUT)
        twin, other = store.copy(), copy.deepcopy(plain)
        self.assertIsInstance(twin, Store)
        twin.do(CHANGE)
        twin.do(("put", ((0,),)))
        other.do(CHANGE)
        other.do(("put", ((0,),)))
        self.check(store, plain, True)
        self.check(twin, other, True)
        twin.fall()
        third = twin.copy()
        self.check(third, other, False)
        third.rise()
        self.check(twin, other, False)
        third.compact(None)
        store.do(("put", ((1,),)))
        plain.do(("put", ((1,),)))
        self.check(store, plain, True)
        self.check(twin, other, False)
        other.compact()
        self.check(third, other, True)

    def test_the_disk_that_is_told_is_a_copy(self):
        store = Store(JUST)
        store.do(PUT)
        disk = store.disk()
        disk.clear(0)
        disk.append(1, "abc", None)
        self.assertEqual(store.texts(), list(PUT[1]))
        self.assertEqual(store.disk().area(1), "")
        found = store.texts()
        found.clear()
        self.assertEqual(store.texts(), list(PUT[1]))


class Random(Case):
    def test_whatever_falls(self):
        source = random.Random(85)
        for _ in range(8):
            machine = source.choice(TWO[:4])
            stores = [(Store(machine), Plain(machine))]
            for _ in range(40):
                store, plain = source.choice(stores)
                if not store.up():
                    store.rise()
                kind = source.randrange(9)
                deed = random_deed(source, plain.machine())
                if kind < 4:
                    store.do(deed)
                    plain.do(deed)
                elif kind < 6:
                    whole = line_signs(store, deed)
                    most = source.choice((source.randrange(whole), whole, whole - 1))
                    store.cut(deed, most)
                    if most == whole:
                        plain.do(deed)
                elif kind == 6:
                    store.fall()
                elif kind == 7:
                    store.compact(source.choice((None, source.randrange(400))))
                elif len(stores) < 3:
                    stores.append((store.copy(), copy.deepcopy(plain)))
            for store, plain in stores:
                self.check(store, plain, store.up())


if __name__ == "__main__":
    unittest.main()
