"""Point [17]: disks, their lines, and items that outlive falls."""

import copy
import random
import unittest

from keptlengths.disks import Disk, lines, noted, opened, rest, rewritten, standing
from keptlengths.errors import NoArea, NoItems, NoNumber, NoStand, NoText
from keptlengths.texts import sealed
from plain_things import NO_THINGS, SIGNS, plain_check, plain_text, things
from samples import KNOTTY, ODD, mixed, nested, told_error

NO_TEXTS = ("\t", "a\r\n", "\x7f", "\u00e9", "a" * 50 + "\x00", 5, ("a",), b"a", ["a"])
# Items of a disk: all kinds of things, and what looks like an entry.
ITEMS = things(40, 71) + [("whole",), ("area", 5), ("item", 1), "(0,('area',0))#2986", nested(27), "\"#'~",
                          KNOTTY, 10 ** 30 - 1]


def plain_lines(entries):
    """The lines of entries, each with the check of all ahead."""
    told = ""
    for entry in entries:
        body = "(%d,%s)" % (plain_check(told), plain_text(entry))
        told += body + "#%d\n" % plain_check(body)
    return told


def of_items(generation, items, whole=True):
    """An area's text with these items."""
    entries = [("area", generation)] + [("item", item) for item in items]
    return plain_lines(entries + [("whole",)] * whole)


def disk_of(one, other):
    disk = Disk()
    disk.append(0, one, None)
    disk.append(1, other, None)
    return disk


def areas(disk):
    return (disk.area(0), disk.area(1))


class Areas(unittest.TestCase):
    def test_a_new_disk(self):
        self.assertEqual(areas(Disk()), ("", ""))
        self.assertIsNone(standing(Disk()))

    def test_by_hand(self):
        disk = Disk()
        self.assertEqual(disk.append(0, "abc\n", None), 4)
        self.assertEqual(disk.append(0, "defg", 2), 2)
        self.assertEqual(disk.append(0, "xyz", 0), 0)
        self.assertEqual(disk.append(1, "xyz", 10 ** 30 - 1), 3)
        self.assertEqual(disk.append(1, "", None), 0)
        self.assertEqual(areas(disk), ("abc\nde", "xyz"))
        self.assertIsNone(disk.shorten(0, 5))
        self.assertEqual(areas(disk), ("abc\nd", "xyz"))
        self.assertIsNone(disk.clear(1))
        self.assertEqual(areas(disk), ("abc\nd", ""))

    def test_random_deeds(self):
        source = random.Random(72)
        disk, plain = Disk(), ["", ""]
        for _ in range(3000):
            k = source.randrange(2)
            kind = source.randrange(8)
            if kind < 5:
                text = "".join(source.choice(SIGNS + "\n") for _ in range(source.randrange(6)))
                most = source.choice((None, None, 0, 1, 3, 6, 99))
                told = text if most is None else text[:most]
                self.assertEqual(disk.append(k, text, most), len(told))
                plain[k] += told
            elif kind < 7:
                many = source.randrange(len(plain[k]) + 1)
                self.assertIsNone(disk.shorten(k, many))
                plain[k] = plain[k][:many]
            elif source.randrange(9) == 0:
                self.assertIsNone(disk.clear(k))
                plain[k] = ""
            self.assertEqual(areas(disk), tuple(plain))

    def test_copies_go_on_by_themselves(self):
        disk = disk_of("abc", "de")
        twin = disk.copy()
        self.assertIsInstance(twin, Disk)
        self.assertTrue(disk == twin)
        twin.append(0, "x", None)
        self.assertEqual((areas(disk), areas(twin)), (("abc", "de"), ("abcx", "de")))
        disk.clear(1)
        twin.shorten(0, 1)
        self.assertEqual((areas(disk), areas(twin)), (("abc", ""), ("a", "de")))

    def test_equality(self):
        texts = ("", "a", "b", "a\n")
        disks = [disk_of(one, other) for one in texts for other in texts]
        for one in disks:
            for other in disks:
                self.assertIs(one == other, areas(one) == areas(other))
                self.assertIs(one != other, areas(one) != areas(other))
            for odd in ODD + (areas(one), list(areas(one))):
                self.assertIs(one == odd, False)
                self.assertIs(one != odd, True)

    def test_errors_change_nothing(self):
        disk = disk_of("abc\n", "de")
        before = areas(disk)
        for odd in ODD + (2, -1, True, False, "0", (0,), None, 10 ** 29):
            for tell, arguments in ((disk.area, ()), (disk.append, ("a", None)), (disk.append, ("\t", -1)),
                                    (disk.clear, ()), (disk.shorten, (0,)), (disk.shorten, (-1,))):
                self.assertEqual(told_error(tell, odd, *arguments), (NoArea, {}))
        for k in (0, 1):
            for odd in ODD + NO_TEXTS:
                if not isinstance(odd, str) or odd in NO_TEXTS:
                    for most in (None, 0, -1, "a"):
                        self.assertEqual(told_error(disk.append, k, odd, most), (NoText, {}))
            for odd in ODD + (-1, "1", True, (1,)):
                if odd is not None and odd != 10 ** 30 - 1:
                    self.assertEqual(told_error(disk.append, k, "a", odd), (NoNumber, {}))
            for odd in ODD + (-1, 5 - 2 * k, "1", True, (1,), None, 10 ** 29):
                self.assertEqual(told_error(disk.shorten, k, odd), (NoNumber, {}))
        self.assertEqual(areas(disk), before)


class Lines(unittest.TestCase):
    def check(self, text, entries, signs):
        self.assertEqual(lines(text), entries)
        self.assertIs(type(lines(text)), list)
        self.assertEqual(rest(text), signs)

    def test_by_hand(self):
        self.check("", [], 0)
        # 9, 17, 13, 22 and 10, each times its place.
        self.check("(0,5)#220\n", [5], 10)
        first = sealed((0, "a")) + "\n"
        second = sealed((plain_check(first), (1, None))) + "\n"
        self.check(first + second, ["a", (1, None)], len(first + second))
        self.check(first + second[:-1], ["a"], len(first))
        self.check(first + "\n" + second, ["a"], len(first))
        self.check("\n" + first, [], 0)
        self.check(second, [], 0)
        self.check(first + first, ["a"], len(first))

    def test_plain(self):
        entries = []
        for entry in ITEMS + [None, 0, "a", (), nested(28)]:
            entries.append(entry)
            self.check(plain_lines(entries), entries, len(plain_lines(entries)))

    def test_cut_anywhere(self):
        entries = ITEMS[:12]
        text = plain_lines(entries)
        ends = [len(plain_lines(entries[:k])) for k in range(len(entries) + 1)]
        for cut in range(len(text) + 1):
            whole = max(k for k in range(len(ends)) if ends[k] <= cut)
            self.check(text[:cut], entries[:whole], ends[whole])

    def test_one_sign_exchanged(self):
        source = random.Random(73)
        entries = [("area", 3), ("item", (1, "a'b", None)), ("whole",), ("item", ()), ("item", -5)]
        text = plain_lines(entries)
        ends = [len(plain_lines(entries[:k])) for k in range(len(entries) + 1)]
        for at in range(len(text)):
            whole = max(k for k in range(len(ends)) if ends[k] <= at)
            for sign in source.sample(SIGNS, 12) + ["\n"]:
                if sign != text[at]:
                    self.check(text[:at] + sign + text[at + 1:], entries[:whole], ends[whole])

    def test_other_lines(self):
        first = sealed((0, 1)) + "\n"
        ahead = plain_check(first)
        for thing in (ahead, (ahead,), (ahead, 1, 2), (ahead + 1, 1), (str(ahead), 1), ((ahead,), 1), (None, 1),
                      (0, 1), (1, ahead), "", (), (-ahead, 1), ((), ())):
            line = sealed(thing) + "\n"
            self.check(first + line + first, [1], len(first))
            self.check(line * 2, [1] if thing == (0, 1) else [], len(first) if thing == (0, 1) else 0)
        # The check of a line is that of all lines ahead, and a wrong one ends them.
        good = plain_lines([1, 2, 3])
        for k in range(3):
            parts = good.split("\n")
            parts[k] += " "
            self.check("\n".join(parts), [1, 2, 3][:k], len(plain_lines([1, 2, 3][:k])))

    def test_entries_of_thirty(self):
        self.check(plain_lines([nested(28)]), [nested(28)], len(plain_lines([nested(28)])))
        self.check(plain_lines([nested(29)]), [], 0)
        self.check(plain_lines([1, 10 ** 30]), [1], len(plain_lines([1])))

    def test_no_text(self):
        for odd in ODD + NO_TEXTS:
            if isinstance(odd, str) and odd not in NO_TEXTS:
                self.check(odd, [], 0)
                continue
            for tell in (lines, rest):
                self.assertEqual(told_error(tell, odd), (NoText, {}))
        for tell in (lines, rest):
            self.assertEqual(told_error(tell, plain_lines([1]) + "\t"), (NoText, {}))


class Standing(unittest.TestCase):
    def test_what_stands(self):
        stands = [
            ([("area", 7), ("whole",)], 7), ([("area", 0), ("item", 5), ("whole",)], 0),
            ([("area", 10 ** 30 - 1), ("whole",), ("item", 5)], 10 ** 30 - 1),
            ([("area", 1), ("area", 8), ("whole",), ("whole",), 5], 1),
            ([("area", 2), ("item", ("whole",)), None, ("whole",)], 2),
        ]
        none = [[], [("area", 7)], [("whole",)], [("whole",), ("area", 7)], [("area", -1), ("whole",)],
                [("area", "7"), ("whole",)], [("area", None), ("whole",)], [("area",), ("whole",)],
                [("area", 7, 7), ("whole",)], ["area", ("whole",)], [("area", 7), "whole"],
                [("area", 7), ("whole", 1)], [("area", 7), ("item", ("whole",))], [5, ("area", 7), ("whole",)],
                [("item", 1), ("area", 7), ("whole",)], [("area", (7,)), ("whole",)], [("Area", 7), ("whole",)]]
        for entries in none:
            for k in (0, 1):
                texts = [plain_lines(entries), ""]
                self.assertIsNone(standing(disk_of(texts[k], texts[1 - k])), entries)
            for other, _generation in stands:
                self.assertEqual(standing(disk_of(plain_lines(entries), plain_lines(other))), 1)
                self.assertEqual(standing(disk_of(plain_lines(other), plain_lines(entries))), 0)
        for one, generation in stands:
            for other, twin in stands:
                told = standing(disk_of(plain_lines(one), plain_lines(other)))
                self.assertEqual(told, 0 if generation >= twin else 1)
                self.assertIs(type(told), int)

    def test_lines_that_do_not_count(self):
        whole = plain_lines([("area", 3), ("whole",)])
        self.assertEqual(standing(disk_of(whole, "")), 0)
        for text in (whole[:-1], "\n" + whole, whole[1:], whole.replace("3", "4")):
            self.assertIsNone(standing(disk_of(text, "")))
        self.assertEqual(standing(disk_of(whole + "abc", whole)), 0)


class Opened(unittest.TestCase):
    NEW = plain_lines([("area", 0), ("whole",)])

    def check(self, one, other, items, after):
        disk = disk_of(one, other)
        self.assertEqual(opened(disk), items)
        self.assertEqual(areas(disk), after)
        again = disk.copy()
        told = opened(disk)
        self.assertEqual(told, items)
        self.assertIs(type(told), list)
        self.assertTrue(disk == again)

    def test_what_does_not_stand(self):
        for one in ("", "abc", of_items(4, [1], False), "\n", self.NEW[:-1]):
            for other in ("", "xyz\n", of_items(5, [2], False)):
                self.check(one, other, [], (self.NEW, ""))

    def test_what_stands(self):
        for items in ([], [1], ITEMS):
            elder, newer = of_items(4, [9, 8]), of_items(5, items)
            for behind in ("", "a", "\n", newer, elder[:20]):
                self.check(newer + behind, elder, items, (newer, ""))
                self.check(elder, newer + behind, items, ("", newer))
                self.check(newer + behind, elder[:-1], items, (newer, ""))
                self.check("abc", elder + behind, [9, 8], ("", elder))
            self.check(newer, of_items(5, [7]), items, (newer, ""))

    def test_items_ahead_of_whole_and_behind(self):
        entries = [("area", 3), ("item", 1), ("other", 2), ("whole",), ("item", (2,)), ("item",), ("item", 3, 3),
                   "item", ("whole",), ("items", 4), ("item", None), 5]
        text = plain_lines(entries)
        self.check(text, "", [1, (2,), None], (text, ""))


class Noted(unittest.TestCase):
    def test_cut_anywhere(self):
        for at, ahead in ((0, []), (1, []), (0, ITEMS[:3]), (1, ITEMS[:3])):
            for item in ITEMS[:8] + [("whole",), "", nested(27), nested(28, 1)]:
                texts = [of_items(6, ahead), of_items(5, [1])[:-3]]
                disk = disk_of(texts[at], texts[1 - at])
                after = plain_lines([("area", 6)] + [("item", x) for x in ahead] + [("whole",), ("item", item)])
                many = len(after) - len(texts[0])
                for most in [None] + list(range(many + 2)):
                    twin = disk.copy()
                    written = many if most is None else min(most, many)
                    self.assertEqual(noted(twin, item, most), written)
                    self.assertEqual(twin.area(at), after[:len(texts[0]) + written])
                    self.assertEqual(twin.area(1 - at), texts[1])
                    told = ahead + [item] if written == many else ahead
                    self.assertEqual(opened(twin), told)
                    again = twin.copy()
                    self.assertEqual(opened(twin), told)
                    self.assertTrue(again == twin)
                self.assertEqual(areas(disk), (texts[at], texts[1 - at]))

    def test_one_behind_another(self):
        source = random.Random(74)
        disk = Disk()
        opened(disk)
        kept = []
        for _ in range(60):
            item = source.choice(ITEMS)
            most = source.choice((None, None, 0, 5, 17, 9999))
            written = noted(disk, item, most)
            if most is not None:
                whole = len(disk.area(standing(disk))) == rest(disk.area(standing(disk))) and written > 0
                kept += [item] * whole
                self.assertEqual(opened(disk), kept)
            else:
                kept.append(item)
        self.assertEqual(opened(disk), kept)
        self.assertEqual(disk.area(0), plain_lines([("area", 0), ("whole",)] + [("item", x) for x in kept]))

    def test_errors_change_nothing(self):
        for disk in (disk_of(of_items(3, [1]), "ab"), Disk()):
            before = areas(disk)
            for item in NO_THINGS + [nested(28), nested(29, 1), (1, nested(27)), (nested(28, 1),)]:
                for most in (None, 0, -1):
                    self.assertEqual(told_error(noted, disk, item, most), (NoItems, {}))
            for odd in ODD + (-1, True, "1", (1,)):
                if odd is not None and odd != 10 ** 30 - 1:
                    self.assertEqual(told_error(noted, disk, 5, odd), (NoNumber, {}))
                    self.assertEqual(told_error(rewritten, disk, (5,), odd), (NoNumber, {}))
            self.assertEqual(areas(disk), before)
        for one in ("", "abc", of_items(3, [1], False)):
            disk = disk_of(one, of_items(8, [1])[:-1])
            before = areas(disk)
            for most in (None, 0, 5):
                self.assertEqual(told_error(noted, disk, nested(27), most), (NoStand, {}))
                self.assertEqual(told_error(rewritten, disk, (), most), (NoStand, {}))
            self.assertEqual(areas(disk), before)


class Rewritten(unittest.TestCase):
    def test_cut_anywhere(self):
        elder = of_items(6, ["elder", 1])
        for at in (0, 1):
            for left in ("", "abc\n", of_items(5, [7])):
                for items in ((), (1,), ("new", (nested(26), None), ("whole",))):
                    texts = [elder, left]
                    disk = disk_of(texts[at], texts[1 - at])
                    after = of_items(7, list(items))
                    for most in [None] + list(range(len(after) + 2)):
                        twin = disk.copy()
                        written = len(after) if most is None else min(most, len(after))
                        self.assertEqual(rewritten(twin, items, most), written)
                        self.assertEqual(twin.area(at), elder)
                        self.assertEqual(twin.area(1 - at), after[:written])
                        whole = written == len(after)
                        told = list(items) if whole else ["elder", 1]
                        self.assertEqual(opened(twin), told)
                        self.assertEqual(twin.area(at), "" if whole else elder)
                        self.assertEqual(twin.area(1 - at), after if whole else "")
                        self.assertEqual(opened(twin), told)
                    self.assertEqual(areas(disk), (texts[at], texts[1 - at]))

    def test_again_and_again(self):
        disk = Disk()
        self.assertEqual(opened(disk), [])
        for generation in range(1, 9):
            items = tuple(ITEMS[:generation])
            rewritten(disk, items, None)
            self.assertEqual(standing(disk), generation % 2)
            self.assertEqual(disk.area(generation % 2), of_items(generation, list(items)))
            noted(disk, generation, None)
            if generation % 3:
                self.assertEqual(opened(disk), list(items) + [generation])
                self.assertEqual(disk.area(1 - generation % 2), "")

    def test_all_items(self):
        disk = disk_of(of_items(0, []), "")
        rewritten(disk, tuple(ITEMS), None)
        self.assertEqual(opened(disk), ITEMS)

    def test_the_greatest_generation(self):
        disk = disk_of(of_items(10 ** 30 - 2, [1]), "")
        rewritten(disk, (2,), None)
        self.assertEqual(areas(disk)[1], of_items(10 ** 30 - 1, [2]))
        before = areas(disk)
        for most in (None, 0, 9):
            self.assertEqual(told_error(rewritten, disk, (3,), most), (NoStand, {}))
        self.assertEqual(told_error(rewritten, disk, [3], None), (NoItems, {}))
        self.assertEqual(told_error(rewritten, disk, (3,), -1), (NoNumber, {}))
        self.assertEqual(areas(disk), before)
        noted(disk, 3, None)
        self.assertEqual(opened(disk), [2, 3])

    def test_no_items(self):
        disk = disk_of(of_items(3, [1]), "ab")
        before = areas(disk)
        for items in (None, [], [1], "a", 5, {}, {1: 2}, True, NoItems(), mixed(30)):
            for most in (None, 0, -1, "a"):
                self.assertEqual(told_error(rewritten, disk, items, most), (NoItems, {}))
        for item in NO_THINGS + [nested(28), nested(29)]:
            self.assertEqual(told_error(rewritten, disk, (item,), None), (NoItems, {}))
            self.assertEqual(told_error(rewritten, disk, (1, "a", item), -1), (NoItems, {}))
        self.assertEqual(areas(disk), before)
        items = (nested(27), nested(27, 4))
        self.assertEqual(rewritten(disk, items, None), len(of_items(4, list(items))))

    def test_nothing_handed_over_is_changed(self):
        disk = disk_of(of_items(3, [1]), "ab")
        own = [[1, [2]], {"a": [1]}, ([1], 2)]
        before = copy.deepcopy(own)
        for thing in own:
            for tell in (noted, rewritten):
                self.assertEqual(told_error(tell, disk, thing, None), (NoItems, {}))
        self.assertEqual(own, before)
        told = opened(disk)
        told.append(5)
        self.assertEqual(opened(disk), [1])
        found = lines(disk.area(0))
        found.clear()
        self.assertEqual(len(lines(disk.area(0))), 3)


if __name__ == "__main__":
    unittest.main()
