"""Texts of verdicts: how a work is held, or by which motion it is loose."""

from firmstops.errors import BadText
from firmstops.held import Held, Slide, Turn
from firmstops.motions import is_way
from firmstops.numbertext import read_numbers, words_of
from firmstops.ratios import ratio_text

SIZES = {"slide": 3, "turn": 4}


def verdict_text(verdict):
    """Return the text of a Held, a Slide or a Turn."""
    if isinstance(verdict, Held):
        return "held " + verdict.how
    if isinstance(verdict, Slide):
        return "slide " + " ".join([ratio_text(number) for number in verdict.direction])
    place = ",".join([ratio_text(number) for number in verdict.centre])
    return " ".join(["turn", place, verdict.way, ratio_text(verdict.most)])


def read_turn(words):
    """Return the Turn of the words of a text."""
    parts = words[1].split(",")
    if len(parts) != 2:
        raise BadText(1, "number")
    centre = read_numbers(parts, 1)
    if not is_way(words[2]):
        raise BadText(2, "way")
    return Turn(centre, words[2], read_numbers([words[3]], 3)[0])


def parse_verdict(text):
    """Return the Slide or the Turn of a text."""
    words = words_of(text)
    if words[0] not in SIZES:
        raise BadText(0, "word")
    if len(words) != SIZES[words[0]]:
        raise BadText(0, "size")
    if words[0] == "turn":
        return read_turn(words)
    return Slide((read_numbers([words[1]], 1)[0], read_numbers([words[2]], 2)[0]))
