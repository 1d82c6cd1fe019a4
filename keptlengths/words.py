"""The words of a machine's texts, and texts packed one behind another [9], [10]."""

from keptlengths.counting import MOST_LENGTH, Counts, demand_short, place_in, text_in
from keptlengths.errors import NoBits, NoTexts, NotKept
from keptlengths.machines import demand_machine, is_bits, is_text, length, owned_length
from keptlengths.sums import kept


def word(machine, text):
    """The word of a text."""
    bits = owned_length(machine, text)
    demand_kept(machine)
    demand_short(bits)
    counts = Counts(machine)
    return word_in(counts, first_words(counts, bits), text, bits)


def read_word(machine, bits):
    """The text whose word some bits begin with and how many bits were read, or None."""
    demand_machine(machine)
    demand_bits(bits)
    demand_kept(machine)
    return text_from(Counts(machine), bits, 0)


def packed(machine, texts):
    """The words of a tuple of texts, one behind another."""
    lengths = lengths_of(machine, texts)
    demand_kept(machine)
    most = max(lengths, default=0)
    demand_short(most)
    counts = Counts(machine)
    firsts = first_words(counts, most)
    return "".join([word_in(counts, firsts, text, bits) for text, bits in zip(texts, lengths)])


def unpacked(machine, bits):
    """The texts that are read from the front, and how many bits they took."""
    demand_machine(machine)
    demand_bits(bits)
    demand_kept(machine)
    counts = Counts(machine)
    texts = []
    at = 0
    told = text_from(counts, bits, at)
    while told is not None:
        texts.append(told[0])
        at += told[1]
        told = text_from(counts, bits, at)
    return (tuple(texts), at)


def needed(machine, texts):
    """How many bits a tuple of texts takes together."""
    return sum(lengths_of(machine, texts))


def demand_bits(thing):
    """Raise NoBits for what are no bits."""
    if not is_bits(thing):
        raise NoBits()


def demand_kept(machine):
    """Raise NotKept for a machine that can't be kept."""
    if not kept(machine):
        raise NotKept()


def lengths_of(machine, texts):
    """The lengths of a tuple of texts. NoTexts is raised for what is no tuple of the machine's."""
    demand_machine(machine)
    if not isinstance(texts, tuple) or not all([is_text(machine[0], text) for text in texts]):
        raise NoTexts()
    lengths = [length(machine, text) for text in texts]
    if None in lengths:
        raise NoTexts()
    return lengths


def word_in(counts, firsts, text, bits):
    """The word of a text of a length, by the first words of each length."""
    return written(firsts[bits] + place_in(counts, text, bits), bits)


def text_from(counts, bits, start):
    """The text whose word stands at a start in bits and how many bits it has, or None."""
    told = word_at(counts, bits, start)
    if told is None:
        return None
    taken, place = told
    return (text_in(counts, taken, place), taken)


def first_words(dealt, most):
    """For each length up to the most the number of its first word that no shorter one takes.

    What is dealt tells by of_length how many words have a length.
    """
    firsts = [0]
    for bits in range(most):
        firsts.append(2 * (firsts[bits] + dealt.of_length(bits)))
    return firsts


def written(number, bits):
    """A number as so many bits."""
    return f"{number:b}".zfill(bits)


def word_at(dealt, bits, start):
    """How many bits the word at a start has and its index among those of its length, or None."""
    # How many words of the length that is read stand ahead and are not taken by shorter ones.
    ahead = 0
    for taken in range(1, min(MOST_LENGTH, len(bits) - start) + 1):
        ahead = 2 * ahead + int(bits[start + taken - 1])
        number = dealt.of_length(taken)
        if ahead < number:
            return (taken, ahead)
        ahead -= number
    return None
