"""Point [18]: things, their texts, and texts that are sealed."""

import random
import re
import unittest

from keptlengths import errors
from keptlengths.errors import BadText, NoText, NoThing
from keptlengths.texts import check, read_thing, sealed, thing_text, unsealed
from plain_things import NO_THINGS, SIGNS, plain_check, plain_text, things
from samples import JUST, KNOTTY, ODD, nested, told_error

TOKEN = re.compile(r"-?[1-9][0-9]{0,29}|0|\.|'(?:[ -&(-}]|~['~])*'|[(),]")
# How a text may go on whose beginning is given: its last thing ends, and all tuples end.
BEHIND = ("", "1", "'", "''")


def is_plain_text(text):
    """Whether a text is that of a thing: all tuples are struck out, the innermost first."""
    tokens = TOKEN.findall(text)
    if "".join(tokens) != text:
        return False
    told = "".join(token if token in ("(", ")", ",") else "." for token in tokens)
    for deep in range(31):
        if told == ".":
            return True
        told = re.sub(r"\((?:\.(?:,\.)*)?\)", ".", told)
    return False


def can_go_on(text):
    return any(is_plain_text(text + behind + ")" * deep) for behind in BEHIND
               for deep in range(text.count("(") - text.count(")") + 1 if "'" not in text else 12))


THINGS = things(600, 61) + [nested(k) for k in range(30)] + [JUST, KNOTTY]


class Things(unittest.TestCase):
    def test_by_hand(self):
        for thing, text in (
                (0, "0"), (7, "7"), (-12, "-12"), (None, "."), ("", "''"), ("ab c", "'ab c'"),
                ("it's ~", "'it~'s ~~'"), ((), "()"), ((1,), "(1)"), ((1, None, "x"), "(1,.,'x')"),
                (((), ((0,), "(")), "((),((0),'('))"), (10 ** 30 - 1, "9" * 30), (1 - 10 ** 30, "-" + "9" * 30),
                ("#\\\"%", "'#\\\"%'")):
            self.assertEqual(thing_text(thing), text)
            self.assertEqual(read_thing(text), thing)
            self.assertIs(type(read_thing(text)), type(thing))

    def test_plain_texts(self):
        for thing in THINGS:
            text = thing_text(thing)
            self.assertEqual(text, plain_text(thing))
            self.assertTrue(is_plain_text(text))
            self.assertEqual(read_thing(text), thing)

    def test_no_two_things_have_one_text(self):
        texts = {}
        for thing in THINGS + [(1, 2), ("1,2",), ("1", "2"), ("1','2",), "()", "(1)", ".", "1", "'", "''"]:
            self.assertEqual(texts.setdefault(thing_text(thing), thing), thing)

    def test_thirty_digits_and_thirty_deep(self):
        for digits in ("1" + "0" * 29, "9" * 30):
            for sign in ("", "-"):
                self.assertEqual(read_thing(sign + digits), int(sign + digits))
                self.assertEqual(thing_text(int(sign + digits)), sign + digits)
                self.assertEqual(told_error(thing_text, int(sign + digits + "0")), (NoThing, {}))
                self.assertEqual(told_error(read_thing, sign + digits + "0"),
                                 (BadText, {"place": 30 + len(sign)}))
                self.assertEqual(told_error(read_thing, "(" + sign + digits + "123)"),
                                 (BadText, {"place": 31 + len(sign)}))
        for inner in ("", "7", "'('", "'~~~'',.,()"[:5] + "'"):
            text = "(" * 30 + inner + ")" * 30
            self.assertEqual(thing_text(read_thing(text)), text)
        self.assertEqual(read_thing("(" * 30 + ")" * 30), nested(29))
        for inner in ("()", "(7)", "(", "((", "(" * 3000):
            self.assertEqual(told_error(read_thing, "(" * 30 + inner + ")" * 30), (BadText, {"place": 30}))
            self.assertEqual(told_error(read_thing, "(" * 30 + "1," + inner), (BadText, {"place": 32}))
        # A tuple that is ended is not one within which others are.
        text = "(" + "(" * 29 + ")" * 29 + "," + "(" * 29 + ")" * 29 + ")"
        self.assertEqual(thing_text(read_thing(text)), text)
        self.assertEqual(thing_text(nested(29)), "(" * 30 + ")" * 30)
        self.assertEqual(thing_text(nested(30, 5)), "(" * 30 + "5" + ")" * 30)
        for inner in ((), (5,), "a\n", [], True):
            self.assertEqual(told_error(thing_text, nested(30, inner)), (NoThing, {}))

    def test_no_things(self):
        for thing in NO_THINGS:
            self.assertEqual(told_error(thing_text, thing), (NoThing, {}))
            self.assertEqual(told_error(sealed, thing), (NoThing, {}))

    def test_odd_values(self):
        plain = [None, -1, 10 ** 30 - 1, "", "a", ("a",), (None,)]
        for odd in ODD:
            is_one = any(type(odd) is type(thing) and odd == thing for thing in plain)
            self.assertEqual(told_error(thing_text, odd), None if is_one else (NoThing, {}))

    def test_long_things(self):
        for thing in ("~'" * 10000, (None,) * 100000, ((),) * 50000, tuple(range(20000))):
            self.assertEqual(read_thing(thing_text(thing)), thing)
        self.assertEqual(told_error(read_thing, "1" * 20000), (BadText, {"place": 30}))
        self.assertEqual(told_error(read_thing, "'" + "a" * 20000), (BadText, {"place": 20001}))


class BadTexts(unittest.TestCase):
    def test_all_beginnings(self):
        """Each text that can go on, lengthened by each sign."""
        waiting = [""]
        many = 0
        while waiting:
            text = waiting.pop()
            if is_plain_text(text):
                self.assertEqual(thing_text(read_thing(text)), text)
            else:
                self.assertEqual(told_error(read_thing, text), (BadText, {"place": len(text)}))
            for sign in "01-(),.'~ " + "a\n":
                if can_go_on(text + sign):
                    if len(text) < 4:
                        waiting.append(text + sign)
                    continue
                for behind in ("", "1", "'", ")"):
                    self.assertEqual(told_error(read_thing, text + sign + behind),
                                     (BadText, {"place": len(text)}), text + sign + behind)
                many += 1
        self.assertGreater(many, 2000)

    def test_by_hand(self):
        for text, place in (
                ("", 0), (" ", 0), ("-", 1), ("--", 1), ("-0", 1), ("-01", 1), ("00", 1), ("01", 1), ("1-", 1),
                ("1 ", 1), ("+1", 0), ("1.", 1), ("..", 1), ("'", 1), ("'a", 2), ("'a''", 3), ("'~", 2),
                ("'~a'", 2), ("'a\n'", 2), ("'\x7f'", 1), ("(", 1), (")", 0), ("(,", 1), ("(1,)", 3), ("(1", 2),
                ("(1,", 3), ("(1 ", 2), ("(1;2)", 2), ("()(", 2), ("())", 2), ("((1)", 4), ("a", 0), ("None", 0),
                ("1e5", 1), ("(-)", 2), ("(-0)", 2), ("(00)", 2), ("(.1)", 2), ("('a'1)", 4), ("\n", 0),
                ("1\n", 1), ("()\n", 2), ("\u0661", 0), ("1\u0661", 1), ("'\u00e9'", 1), ("-\u0661", 1)):
            self.assertEqual(told_error(read_thing, text), (BadText, {"place": place}), text)

    def test_what_is_no_string(self):
        for odd in ODD + (5, ("1",), b"1", 1.5, ("", ())):
            if not isinstance(odd, str):
                self.assertEqual(told_error(read_thing, odd), (BadText, {"place": -1}))

    def test_texts_with_one_sign_exchanged(self):
        source = random.Random(62)
        for thing in THINGS[:150]:
            text = thing_text(thing)
            at = source.randrange(len(text))
            other = text[:at] + source.choice(SIGNS + "\n\t\u20ac0123,)('~") + text[at + 1:]
            places = [k for k in range(len(other)) if not can_go_on(other[:k + 1])]
            if is_plain_text(other):
                self.assertEqual(thing_text(read_thing(other)), other)
            else:
                place = min(places, default=len(other))
                self.assertEqual(told_error(read_thing, other), (BadText, {"place": place}), other)


class Checks(unittest.TestCase):
    def test_by_hand(self):
        for text, number in (("", 0), ("\n", 0), (" ", 1), ("!", 2), ("~", 95), ("\n ", 2), ("  ", 3),
                             ("~~", 285), ("A", 34), ("\n\nA", 102), ("0", 17)):
            self.assertEqual(check(text), number)

    def test_plain(self):
        source = random.Random(63)
        for size in (1, 5, 60, 700, 20000):
            for _ in range(20 if size < 1000 else 2):
                text = "".join(source.choice(SIGNS + "\n\n\n") for _ in range(size))
                self.assertEqual(check(text), plain_check(text))
        self.assertEqual(check("~" * 20000), 95 * 20000 * 20001 // 2 % 99991)

    def test_no_text(self):
        for odd in ODD + ("\t", "a\r", "\x7f", "\x1f", "\u00e9", "a" * 100 + "\x00", 5, ("a",), b"a"):
            if isinstance(odd, str) and odd in ("", "a", "01\n"):
                self.assertEqual(check(odd), plain_check(odd))
            else:
                self.assertEqual(told_error(check, odd), (NoText, {}))


class Sealed(unittest.TestCase):
    def test_plain(self):
        for thing in THINGS:
            text = sealed(thing)
            self.assertEqual(text, plain_text(thing) + "#" + str(plain_check(plain_text(thing))))
            self.assertEqual(unsealed(text), (thing,))
            self.assertIs(type(unsealed(text)), tuple)
        self.assertEqual(sealed(None), ".#15")
        self.assertEqual(unsealed(".#15"), (None,))
        self.assertEqual(unsealed(sealed(())), ((),))

    def test_one_sign_exchanged(self):
        source = random.Random(64)
        for thing in THINGS[:60] + [nested(29), 10 ** 30 - 1, "#", "a#1", ("#", "#12")]:
            text = sealed(thing)
            places = range(len(text)) if len(text) < 40 else sorted(source.sample(range(len(text)), 40))
            for at in places:
                for sign in SIGNS + "\n\t\u0661":
                    if sign != text[at]:
                        self.assertEqual(unsealed(text[:at] + sign + text[at + 1:]), ())

    def test_the_last_sign_left_out(self):
        for thing in THINGS:
            text = sealed(thing)
            self.assertEqual(unsealed(text[:-1]), ())
            for at in range(0, len(text), 1 + len(text) // 20):
                self.assertEqual(unsealed(text[:at]), ())

    def test_two_unlike_neighbours_exchanged(self):
        for thing in THINGS:
            text = sealed(thing)
            for at in range(len(text) - 1):
                if text[at] != text[at + 1]:
                    other = text[:at] + text[at + 1] + text[at] + text[at + 2:]
                    self.assertEqual(unsealed(other), ())

    def test_other_values(self):
        for odd in ODD + (5, b".#15", (".#15",), [".#15"], None, "", "#", "#0", ".", ".#", ".15", ".#015",
                          ".#15 ", " .#15", ".#15\n", ".#-15", ".#+15", ".#1_5", ".#115006", ".##15", "..#47",
                          ".#\u0661\u0665", "'a'", "'a'#", "1" * 31 + "#5", "(" * 31 + ")" * 31 + "#0"):
            self.assertEqual(unsealed(odd), ())
        for text in ("(" * 31 + ")" * 31, "1" * 31, "-0", "01", "(1,)", "a", "'a\n'", "\n"):
            self.assertEqual(unsealed(text + "#" + str(plain_check(text))), ())
        for thing in THINGS[:50]:
            text = sealed(thing)
            for other in (text + "0", "0" + text, text + "\n", text + text, text.replace("#", "#0"),
                          text.replace("#", "# "), text.replace("#", "")):
                self.assertEqual(unsealed(other), () if other != text else (thing,))

    def test_errors_are_of_the_package(self):
        self.assertEqual(vars(errors.BadText(4)), {"place": 4})


if __name__ == "__main__":
    unittest.main()
