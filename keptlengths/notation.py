"""Machines as texts [20]."""

from keptlengths.machines import demand_machine, is_machine
from keptlengths.texts import DIGITS


def machine_text(machine):
    """The text of a machine: its size, then a line for each state."""
    demand_machine(machine)
    size, rows = machine
    return f"size {size}\n" + "".join([row_text(row) for row in rows])


def read_machine(text):
    """The machine whose text this is, or None."""
    if not isinstance(text, str):
        return None
    head, *rows = text.split("\n")
    found = (read_digits(head[len("size "):]), tuple([read_row(line) for line in rows[:-1]]))
    # What was read too freely is no machine, or its text is another one.
    return found if is_machine(found) and machine_text(found) == text else None


def row_text(row):
    """The line of a state."""
    end, steps = row
    words = ["-" if end is None else str(end)]
    for step in steps:
        words.append("-" if step is None else f"{step[0]}:{step[1]}")
    return " ".join(words) + "\n"


def read_row(line):
    """The row of a state's line."""
    end, *steps = line.split(" ")
    return (read_digits(end), tuple([read_step(word) for word in steps]))


def read_step(word):
    """The step of a word, None for none."""
    more, _, state = word.partition(":")
    return None if word == "-" else (read_digits(more), read_digits(state))


def read_digits(word):
    """The integer of one or two digits, None for another word."""
    if not 1 <= len(word) <= 2 or not all([sign in DIGITS for sign in word]):
        return None
    return int(word)
