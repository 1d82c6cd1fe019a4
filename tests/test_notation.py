"""Point [20]: machines as texts."""

import random
import re
import unittest

from keptlengths.errors import NoMachine
from keptlengths.machines import is_machine
from keptlengths.notation import machine_text, read_machine
from samples import (
    ABOVE, EMPTY, JUST, KNOTTY, NEGATIVE, NO_TEXTS, ODD, ONES, chain, mixed, nested, random_machine,
    random_machines, ring, told_error, wrong_machines,
)

MACHINES = [ONES, JUST, ABOVE, NEGATIVE, EMPTY, KNOTTY, NO_TEXTS, chain(30, 8, 60, 60), ring(30, 0, 9, 10),
            (1, ((None, (None,)),)), (8, ((60, (None,) * 8),) * 30)] + random_machines(200, 91)


def plain_word(told):
    return "-" if told is None else "%d" % told


def plain_text(machine):
    told = "size %d\n" % machine[0]
    for end, steps in machine[1]:
        told += plain_word(end)
        for step in steps:
            told += " -" if step is None else " %d:%d" % step
        told += "\n"
    return told


SIZE = re.compile("size [1-8]")
WORD = re.compile("-|[1-9]|[1-5][0-9]|60")
STEP = re.compile("-|([0-9]|[1-5][0-9]|60):([0-9]|[12][0-9])")


def is_plain_text(text):
    """Whether a text is that of a machine, judged by its words."""
    head, *rows = text.split("\n")
    if not SIZE.fullmatch(head) or rows[-1:] != [""] or not 1 <= len(rows) - 1 <= 30:
        return False
    for row in rows[:-1]:
        end, *steps = row.split(" ")
        if not WORD.fullmatch(end) or len(steps) != int(head[5:]):
            return False
        for step in steps:
            if not STEP.fullmatch(step) or step != "-" and int(step.split(":")[1]) >= len(rows) - 1:
                return False
    return True


class Notation(unittest.TestCase):
    def test_by_hand(self):
        self.assertEqual(machine_text(ONES), "size 2\n3 1:0 -\n")
        self.assertEqual(machine_text(NO_TEXTS), "size 2\n- - -\n")
        self.assertEqual(machine_text(KNOTTY), "size 3\n- 1:1 0:2 4:3\n7 - 2:3 0:4\n- 0:2 1:2 -\n1 5:0 0:2 -\n"
                                               "- - - 0:4\n9 0:5 0:3 0:1\n")
        self.assertEqual(read_machine("size 1\n60 60:0\n"), (1, ((60, ((60, 0),)),)))

    def test_machines(self):
        for machine in MACHINES:
            text = machine_text(machine)
            self.assertEqual(text, plain_text(machine))
            self.assertEqual(read_machine(text), machine)
            self.assertTrue(is_machine(read_machine(text)))

    def test_texts_that_are_none(self):
        for text in ("", "\n", "size 2\n", "size 2", "size 2\n- - -", "size 2\n- - -\n\n", "\nsize 2\n- - -\n",
                     "size 2 \n- - -\n", " size 2\n- - -\n", "size  2\n- - -\n", "Size 2\n- - -\n", "size2\n- - -\n",
                     "size 02\n- - -\n", "size +2\n- - -\n", "2\n- - -\n", "sizes 2\n- - -\n", "size 2\n- -\n",
                     "size 2\n- - - -\n", "size 3\n- - -\n", "size 0\n-\n", "size 9\n- - - - - - - - - -\n",
                     "size 2\n0 - -\n", "size 2\n61 - -\n", "size 2\n05 - -\n", "size 2\n-5 - -\n",
                     "size 2\n5 1:1 -\n", "size 2\n5 61:0 -\n", "size 2\n5 1:0:0 -\n", "size 2\n5 1 -\n",
                     "size 2\n5 :0 -\n", "size 2\n5 1: -\n", "size 2\n5 : -\n", "size 2\n5 01:0 -\n",
                     "size 2\n5 1:00 -\n", "size 2\n5 -:0 -\n", "size 2\n5 1:- -\n", "size 2\n5 1;0 -\n",
                     "size 2\n5  1:0 -\n", "size 2\n5\t1:0 -\n", "size 2\n5 1:0 - \n", "size 2\r\n5 1:0 -\n",
                     "size 2\n5 1:0 -\n5 1:0\n", "size 2\n5 --1:0 -\n", "size 2\nNone - -\n", "size 2\n - -\n",
                     "size 2\n\u0665 - -\n", "size \u0662\n5 - -\n", "size 2\n5 1:\u0660 -\n", "size 2\n-- - -\n",
                     "size 2\n5 - --\n", "size 2\n5 - -:-\n", "size 1\n" + "1 -\n" * 31, "size 1\n" + "9" * 5000 + " -\n",
                     "size " + "1" * 9000 + "\n5 -\n", "size 2\n5 1:0 -" + "\n" * 5000, "a" * 20000, "- " * 10000):
            self.assertIsNone(read_machine(text), text[:40])
        self.assertEqual(read_machine("size 1\n" + "1 -\n" * 30), (1, ((1, (None,)),) * 30))

    def test_other_values(self):
        for odd in ODD + (5, JUST, b"size 1\n1 -\n", ("size 1\n1 -\n",), ["size 1\n1 -\n"], nested(5000), mixed(30)):
            self.assertIsNone(read_machine(odd))

    def test_one_sign_exchanged_left_out_or_more(self):
        source = random.Random(92)
        found = 0
        for machine in [ONES, KNOTTY, JUST] + [random_machine(source, 12, 2, (None, 1, 10), (None, 3, 12))]:
            text = machine_text(machine)
            for at in range(len(text) + 1):
                others = [text[:at] + text[at + 1:]]
                for sign in "0123456789-: \nszx+":
                    others += [text[:at] + sign + text[at + 1:], text[:at] + sign + text[at:]]
                for other in others:
                    told = read_machine(other)
                    self.assertIs(told is not None, is_plain_text(other), other)
                    if told is None:
                        continue
                    self.assertTrue(is_machine(told))
                    self.assertEqual(plain_text(told), other)
                    found += 1
        self.assertGreater(found, 300)

    def test_no_two_machines_have_one_text(self):
        texts = {}
        for machine in MACHINES:
            self.assertEqual(texts.setdefault(machine_text(machine), machine), machine)

    def test_errors(self):
        for name, thing in wrong_machines().items():
            self.assertEqual(told_error(machine_text, thing), (NoMachine, {}), name)


if __name__ == "__main__":
    unittest.main()
