"""Texts of stretches of spots."""

from firmstops.numbertext import parts_of, read_numbers, words_of
from firmstops.ratios import ratio_text
from firmstops.stretches import check_stretches
from firmstops.worktext import read_side


def stretches_text(work, stretches):
    """Return the text of stretches: a word SIDE:LOW:HIGH for each one."""
    return " ".join([
        ":".join([str(side), ratio_text(low), ratio_text(high)]) for side, low, high in check_stretches(work, stretches)
    ])


def parse_stretches(work, text):
    """Return the stretches of a text."""
    stretches = []
    for word, told in enumerate(words_of(text)):
        side, low, high = read_numbers(parts_of(told, ":", 3, word), word)
        stretches.append((read_side(side, word), low, high))
    return check_stretches(work, stretches)
