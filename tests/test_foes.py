"""Point [12]: lots of texts by which whatever packs too short is found out."""

import itertools
import random
import unittest
from fractions import Fraction

from keptlengths.errors import Idle, Kept, NoBits, NoMachine, NoText, TooMany
from keptlengths.foes import is_verdict, play, proof_lot
from keptlengths.machines import idle, is_machine
from keptlengths.sums import kept, raised
from keptlengths.words import word
from samples import (
    ABOVE, BELOW, EMPTY, JUST, KNOTTY, NEGATIVE, NO_TEXTS, ODD, ONES, SINGULAR, chain, mixed, nested,
    plain_length, raised_by, random_machine, random_machines, ring, texts_by_length, texts_up_to,
    told_error, wrong_machines,
)


class Own(Exception):
    """An error of a packer."""


def machine_of(size, lengths):
    """A machine with just these texts, all of one number of letters, by their lengths.

    States behind which the same is left are one.
    """
    depth = len(next(iter(lengths)))
    rows = []
    numbers = {}

    def state(text):
        if len(text) == depth:
            row = (lengths.get(text), (None,) * size)
        else:
            below = [state(text + (letter,)) for letter in range(size)]
            row = (None, tuple(None if k is None else (0, k) for k in below))
        if row[0] is None and not any(row[1]):
            return None
        if row not in numbers:
            numbers[row] = len(rows)
            rows.append(row)
        return numbers[row]

    first = state(())
    # State 0 is exchanged for the one that was made last.
    swap = {0: first, first: 0}
    rows[0], rows[first] = rows[first], rows[0]
    return (size, tuple((end, tuple(None if step is None else (0, swap.get(step[1], step[1]))
                                    for step in steps)) for end, steps in rows))


def of_two_lengths(many, more):
    """So many texts of 7 bits and so many more of 8, of three letters of size 8."""
    texts = list(itertools.product(range(8), repeat=3))
    return machine_of(8, {text: 7 if k < many else 8 for k, text in enumerate(texts[:many + more])})


def plain_lot(machine, by_length):
    """The lot out of a list of texts for each length; None if they are not enough."""
    worth = Fraction(0)
    lot = []
    for bits, texts in enumerate(by_length):
        for text in sorted(texts):
            lot.append(text)
            worth += Fraction(1, 2 ** bits)
            if worth > 1:
                return tuple(sorted(lot))
    return None


def lots(many, seed):
    """Random machines that can't be kept with their plain lots, as far as these can be listed."""
    for machine in random_machines(many, seed):
        if kept(machine) or idle(machine) is not None:
            continue
        for most in (3, 6, 9, 12, 16, 20, 64):
            by_length = texts_by_length(machine, most, 20000)
            if by_length is None:
                break
            lot = plain_lot(machine, by_length)
            if lot is not None:
                yield (machine, lot)
                break


LOTS = list(lots(900, 31))
SMALL = [(machine, lot) for machine, lot in LOTS if len(lot) <= 200]
# Two texts of one bit, and one farther off than any other text without a ring.
FAR = (2, ((None, ((0, 1), (0, 2))), (1, (None, (60, 3))), (1, (None, None)))
       + tuple((None, ((60, k), None)) for k in range(4, 30)) + ((60, (None, None)),))


class ProofLot(unittest.TestCase):
    def test_by_hand(self):
        # 1 / 2 + 1 / 4 + 1 / 8 + 1 / 8 is not above 1, and one text of 4 bits is needed.
        self.assertEqual(proof_lot(ABOVE), ((), (0,), (0, 0), (0, 0, 0), (1,)))
        # 1 / 2 and two of 1 / 4, and the first one of 3 bits.
        self.assertEqual(proof_lot(SINGULAR), ((), (0,), (0, 0), (1,)))
        self.assertEqual(proof_lot(FAR), ((0,), (0, 1) + (0,) * 26, (1,)))

    def test_listed(self):
        self.assertGreater(len(SMALL), 60)
        for machine, lot in SMALL:
            with self.subTest(machine=machine):
                self.assertEqual(proof_lot(machine), lot)

    def test_what_the_lot_is(self):
        for machine, lot in SMALL:
            lengths = [plain_length(machine, text) for text in lot]
            worth = sum(Fraction(1, 2 ** bits) for bits in lengths)
            self.assertGreater(worth, 1)
            self.assertLessEqual(worth - Fraction(1, 2 ** max(lengths)), 1)
            self.assertEqual(list(lot), sorted(set(lot)))

    def test_two_hundred_texts_and_one_more(self):
        texts = list(itertools.product(range(8), repeat=3))
        for many, more, needed in ((57, 143, 200), (57, 200, 200), (100, 57, 157), (100, 99, 157),
                                   (128, 1, 129), (129, 0, 129), (200, 0, 129), (140, 90, 129)):
            machine = of_two_lengths(many, more)
            self.assertTrue(is_machine(machine))
            self.assertEqual(proof_lot(machine), tuple(texts[:needed]))
        for many, more in ((56, 145), (0, 257), (0, 300), (30, 200)):
            machine = of_two_lengths(many, more)
            self.assertTrue(is_machine(machine))
            self.assertEqual(told_error(proof_lot, machine), (TooMany, {"most": 200}))
            self.assertEqual(told_error(play, machine, str), (TooMany, {"most": 200}))
        for many, more in ((0, 256), (56, 144), (57, 142), (128, 0)):
            self.assertEqual(told_error(proof_lot, of_two_lengths(many, more)), (Kept, {}))

    def test_too_many_that_are_listed(self):
        great = [machine for machine, lot in LOTS if len(lot) > 200]
        self.assertGreater(len(great), 2)
        for machine in great:
            self.assertEqual(told_error(proof_lot, machine), (TooMany, {"most": 200}))

    def test_too_many_of_great_machines(self):
        for machine in (chain(30, 8, 0, 60), (8, ((60, ((3, 0),) * 7 + ((2, 0),)),))):
            self.assertEqual(told_error(proof_lot, machine), (TooMany, {"most": 200}))
        source = random.Random(32)
        machine = random_machine(source, 30, 8, (1, 2), (None, 50, 60))
        self.assertEqual(told_error(proof_lot, machine), (TooMany, {"most": 200}))

    def test_great_machines(self):
        source = random.Random(33)
        found = 0
        for _ in range(40):
            machine = random_machine(source, 30, 8, (None, 1, 2, 3, 9), (None, None, 1, 2, 3, 40))
            if kept(machine) or idle(machine) is not None:
                continue
            lot = None
            for most in range(2, 9):
                lot = lot or plain_lot(machine, texts_by_length(machine, most, 10 ** 6))
            if lot is not None and len(lot) <= 200:
                self.assertEqual(proof_lot(machine), lot)
                found += 1
        self.assertGreater(found, 10)

    def test_a_text_that_is_far_off(self):
        for states in range(1, 27):
            rows = FAR[1][:3] + tuple((None, ((60, k + 4), None)) for k in range(states - 1))
            machine = (2, rows + ((60, (None, None)),))
            far = (0, 1) + (0,) * (states - 1)
            self.assertEqual(plain_length(machine, far), 60 * (states + 1))
            self.assertEqual(proof_lot(machine), ((0,), far, (1,)))

    def test_errors(self):
        for name, thing in wrong_machines().items():
            with self.subTest(name):
                self.assertEqual(told_error(proof_lot, thing), (NoMachine, {}))
                self.assertEqual(told_error(play, thing, None), (NoMachine, {}))
                for other in (None, ("none", ()), ("alike", ((),), ((), ()))):
                    self.assertEqual(told_error(is_verdict, thing, len, other), (NoMachine, {}))
        for machine in (ONES, JUST, BELOW, KNOTTY, EMPTY, NO_TEXTS, ring(30, 0, 1, 1)):
            told = (Kept, {}) if kept(machine) else None
            self.assertEqual(told_error(proof_lot, machine), told)
            self.assertEqual(told_error(play, machine, lambda text: "0"), told)
        for machine in (NEGATIVE, ring(30, 0, 0, 60), (1, ((1, ((0, 0),)),))):
            self.assertEqual(told_error(proof_lot, machine), (Idle, {}))
            self.assertEqual(told_error(play, machine, lambda text: "0"), (Idle, {}))
        # Of a ring that is not idle all sums are told; an idle one in what is trimmed off is none.
        machine = (2, ((1, ((1, 0), (2, 0))), (None, ((0, 1), (0, 1)))))
        self.assertEqual(proof_lot(machine), proof_lot(ABOVE))

    def test_random_errors(self):
        kinds = {}
        for machine in random_machines(400, 34):
            told = told_error(proof_lot, machine)
            if kept(machine):
                self.assertEqual(told, (Kept, {}))
            elif idle(machine) is not None:
                self.assertEqual(told, (Idle, {}))
            else:
                self.assertIn(told, (None, (TooMany, {"most": 200})))
            kinds[told and told[0]] = kinds.get(told and told[0], 0) + 1
        self.assertEqual(set(kinds), {Kept, Idle, None, TooMany})


def packers_of(machine, seed):
    """Packers that keep within the lengths, by their names."""
    own = {}

    def bits_of(text, signs, less):
        if text not in own:
            source = random.Random(repr((seed, text)))
            many = plain_length(machine, text) - source.choice(less)
            own[text] = "".join(source.choice(signs) for _ in range(max(0, many)))
        return own[text]

    told = {
        "zeros": lambda text: "0" * plain_length(machine, text),
        "nothing": lambda text: "",
        "one sign": lambda text: "1",
        "any": lambda text: bits_of(text, "01", (0,)),
        "any ones": lambda text: bits_of(text, "0111", (0, 0, 1)),
    }
    number = raised(machine)
    if number is not None and raised_by(machine, number) is not None:
        longer = raised_by(machine, number)
        told["cut words"] = lambda text: word(longer, text)[:plain_length(machine, text)]
        told["words' ends"] = lambda text: word(longer, text)[number:]
    return told


class Play(unittest.TestCase):
    def check(self, machine, lot, packer):
        asked = []

        def asking(text):
            asked.append(text)
            return packer(text)

        told = play(machine, asking)
        self.assertLessEqual(set(asked), set(lot))
        self.assertIs(is_verdict(machine, packer, told), True)
        return told

    def test_packers_that_keep_the_lengths_pack_two_rows_alike(self):
        for at, (machine, lot) in enumerate(SMALL):
            for name, packer in packers_of(machine, at).items():
                with self.subTest(name, machine=machine):
                    told = self.check(machine, lot, packer)
                    self.assertEqual((len(told), told[0]), (3, "alike"))
                    one, other = told[1:]
                    self.assertIs(type(one), tuple)
                    self.assertIs(type(other), tuple)
                    self.assertNotEqual(one, other)
                    self.assertLessEqual(set(one + other), set(lot))
                    self.assertEqual("".join(map(packer, one)), "".join(map(packer, other)))

    def test_a_packer_that_is_too_long_at_one_text(self):
        source = random.Random(35)
        for machine, lot in SMALL:
            worst = source.choice(lot)

            def packer(text):
                return "0" * (plain_length(machine, text) + (text == worst))

            told = self.check(machine, lot, packer)
            self.assertIn(told[0], ("longer", "alike"))
            if told[0] == "longer":
                self.assertEqual(told, ("longer", worst))

    def test_words_that_can_be_told_apart_are_longer_at_a_text(self):
        for machine, lot in SMALL:
            number = raised(machine)
            if number is None or raised_by(machine, number) is None:
                continue
            longer = raised_by(machine, number)
            told = self.check(machine, lot, lambda text: word(longer, text))
            self.assertEqual(told[0], "longer")
            self.assertIn(told[1], lot)
        lot = proof_lot(SINGULAR)
        words = {text: format(k, "02b") for k, text in enumerate(lot)}
        self.assertEqual(self.check(SINGULAR, lot, lambda text: words[text]), ("longer", ()))

    def test_a_packer_that_tells_no_bits(self):
        for odd in ODD + (2, "2", b"0", ("0",), ["0"], "0 ", 0, 1.5, len):
            if odd == "":
                continue
            for machine, lot in SMALL[:12] + [(ABOVE, proof_lot(ABOVE))]:
                told = self.check(machine, lot, lambda text: odd)
                self.assertEqual(told[0], "none")
                self.assertIn(told[1], lot)
                self.assertEqual(len(told), 2)
        for machine, lot in SMALL:
            worst = lot[len(lot) // 2]
            told = self.check(machine, lot, lambda text: None if text == worst else "")
            if told[0] == "none":
                self.assertEqual(told, ("none", worst))

    def test_the_same_bits_for_two_texts(self):
        texts = {(): "0", (0,): "10", (0, 0): "110", (1,): "111", (0, 0, 0): "1110"}
        told = self.check(ABOVE, tuple(texts), lambda text: texts[text])
        self.assertEqual(told[0], "alike")
        texts[(0, 0, 0)] = "0"
        told = self.check(ABOVE, tuple(texts), lambda text: texts[text])
        self.assertEqual(sorted(told[1:]), [((),), ((0, 0, 0),)])

    def test_errors_of_the_packer_go_on(self):
        def failing(text):
            if text == (1,):
                raise error
            return "0" * plain_length(ABOVE, text)

        for error in (Own("why"), NoBits(), NoText(), Kept(), TooMany(3), KeyError("x"), ValueError()):
            with self.assertRaises(type(error)) as held:
                play(ABOVE, failing)
            self.assertIs(held.exception, error)
            for thing in (("none", (1,)), ("longer", (1,)), ("alike", ((1,),), ((),))):
                with self.assertRaises(type(error)) as held:
                    is_verdict(ABOVE, failing, thing)
                self.assertIs(held.exception, error)

    def test_bits_far_longer_than_a_code_s(self):
        lot = proof_lot(FAR)
        bits = plain_length(FAR, lot[1])
        self.assertEqual(bits, 60 * 28)
        for signs in ("0" * bits, "1" * (bits - 1), "01" * (bits // 2)):
            words = {lot[0]: "0", lot[1]: signs, lot[2]: "1"}
            told = self.check(FAR, lot, lambda text: words[text])
            self.assertEqual(told[0], "alike")
        words[lot[1]] = "0" * (bits + 1)
        self.assertEqual(self.check(FAR, lot, lambda text: words[text]), ("longer", lot[1]))

    def test_lots_of_two_hundred(self):
        machine = of_two_lengths(57, 143)
        lot = proof_lot(machine)
        for name, packer in packers_of(machine, 36).items():
            self.assertEqual(self.check(machine, lot, packer)[0], "alike", name)
        words = {text: format(k, "08b") for k, text in enumerate(lot)}
        self.assertEqual(self.check(machine, lot, lambda text: words[text])[0], "longer")


class IsVerdict(unittest.TestCase):
    def test_what_holds_for_all_texts(self):
        told = {text: "0" * (len(text) + 1) for text in texts_up_to(2, 4)}
        told[(1, 1)] = "2"
        told[(0, 1)] = None
        told[(1, 0, 1)] = ["0"] * 90
        told[(1, 1, 1)] = "1" * 40
        told[(0, 0)] = ""
        for machine in (ABOVE, JUST, SINGULAR, NEGATIVE, KNOTTY, ONES):
            for text in texts_up_to(2, 4):
                own = plain_length(machine, text)
                bits = told[text]
                is_bits = isinstance(bits, str) and set(bits) <= {"0", "1"}
                self.assertIs(is_verdict(machine, told.get, ("none", text)),
                              own is not None and not is_bits)
                self.assertIs(is_verdict(machine, told.get, ("longer", text)),
                              own is not None and is_bits and len(bits) > own)

    def test_alike_of_all_short_rows(self):
        words = {(): "0", (0,): "01", (1,): "10", (0, 0): "", (0, 1): [], (1, 0): "2", (1, 1): "0"}
        found = 0
        for machine in (JUST, ONES, ABOVE):
            own = [text for text in words if plain_length(machine, text) is not None]
            rows = [row for k in range(4) for row in itertools.product(words, repeat=k)]
            source = random.Random(37)
            for one, other in itertools.product(source.sample(rows, 150), repeat=2):
                holds = one != other and all(
                    text in own and words[text] not in ([], "2") for text in one + other)
                holds = holds and "".join(words[text] for text in one) == "".join(
                    words[text] for text in other)
                self.assertIs(is_verdict(machine, words.get, ("alike", one, other)), holds)
                found += holds
        self.assertGreater(found, 20)
        self.assertIs(is_verdict(JUST, words.get, ("alike", (), ((0, 0),))), True)
        self.assertIs(is_verdict(JUST, words.get, ("alike", ((), (1,)), ((0,), ()))), True)
        self.assertIs(is_verdict(ONES, words.get, ("alike", ((), (1,)), ((0,), ()))), False)
        self.assertIs(is_verdict(JUST, words.get, ("alike", ((0,), ()), ((0,), ()))), False)

    def test_things_of_another_form(self):
        def packer(text):
            return "0" * 90

        self.assertIs(is_verdict(ABOVE, packer, ("longer", ())), True)
        self.assertIs(is_verdict(ABOVE, packer, ("alike", ((),), ((0,),))), True)
        wrong = [["longer", ()], ("longer",), ("longer", (), ()), ("longer", []), ("longer", (True,)),
                 ("longer", (2,)), ("longer", ((),)), ("none", ()), ("none",), ("alike", ((),)),
                 ("alike", ((),), ((0,),), ()), ("alike", [()], ((0,),)), ("alike", ((),), [(0,)]),
                 ("alike", ([],), ((0,),)), ("alike", ((),), ((2,),)), ("alike", (), ()),
                 ("alike", ((),), ((),)), ("alike", ((0,),), ((False,),)), ("alike", (0,), ((0,),)),
                 ["alike", ((),), ((0,),)], ("more", ()), (None, ()), (True, ()), ("", ()), ("alike", (), ("",))]
        for thing in wrong + list(ODD) + [("longer", odd) for odd in ODD if odd != ()]:
            self.assertIs(is_verdict(ABOVE, packer, thing), False, thing)
        for odd in ODD:
            for thing in ((odd, ()), (odd, ((),), ((0,),)), ("alike", odd, ((0,),)), ("alike", ((0,),), odd)):
                if thing != ("alike", (), ((0,),)) and thing != ("alike", ((0,),), ()):
                    self.assertIs(is_verdict(ABOVE, packer, thing), False, thing)
        for thing in (("none", (), ()), ("none",), ["none", ()], ("none", ((),)), ("none", (2,)), ("none", [])):
            self.assertIs(is_verdict(ABOVE, lambda text: None, thing), False, thing)
        for deep in (nested(30), mixed(30), nested(5000), ("none",) + (nested(29),)):
            self.assertIs(is_verdict(ABOVE, packer, deep), False)

    def test_the_packer_is_asked_for_texts_of_the_machine_alone(self):
        def packer(text):
            raise Own()

        for thing in (("none", (1,)), ("longer", (0, 1)), ("longer", (2,)), ("alike", ((0,), (1,)), ()),
                      ("alike", ((0,),), ((1,),)), ("alike", ((0,),), ([0],)), ("other", (0,)), None):
            self.assertIs(is_verdict(ONES, packer, thing), False)

    def test_kept_machines_may_be_judged(self):
        for machine in (JUST, BELOW, KNOTTY, NO_TEXTS, EMPTY):
            text = (2,) if machine == KNOTTY else ()
            own = plain_length(machine, text) is not None
            self.assertIs(is_verdict(machine, lambda told: "1" * 99, ("longer", text)), own)
            self.assertIs(is_verdict(machine, lambda told: None, ("none", text)), own)
            self.assertIs(is_verdict(machine, lambda told: "", ("alike", (), (text,))), own)
            self.assertIs(is_verdict(machine, lambda told: word(machine, told), ("longer", text)), False)


if __name__ == "__main__":
    unittest.main()
