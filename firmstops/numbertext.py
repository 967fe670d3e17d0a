"""Number texts, and words that are made of them."""

from firmstops.errors import BadText
from firmstops.ratios import lowest, ratio_text

LONGEST = 300


def is_figures(text):
    """Return whether a text is one or more of the figures 0 to 9."""
    return text.isascii() and text.isdigit()


def read_ratio(text):
    """Return the ratio of a number text, or None if the text is none."""
    if len(text) > LONGEST:
        return None
    top, slash, bottom = text.partition("/")
    if not is_figures(top.removeprefix("-")):
        return None
    if slash == "":
        one = (int(top), 1)
    elif is_figures(bottom) and int(bottom) > 0:
        one = lowest(int(top), int(bottom))
    else:
        return None
    # A number has one text only: signs, noughts and terms in any other form are refused here.
    return one if ratio_text(one) == text else None


def read_numbers(parts, word):
    """Return the ratios of number texts; errors tell the place of the word."""
    numbers = [read_ratio(part) for part in parts]
    if None in numbers:
        raise BadText(word, "number")
    return tuple(numbers)


def parts_of(word_text, sign, many, word):
    """Return the parts of a word between signs; just so many parts, errors tell the word's place."""
    parts = word_text.split(sign)
    if len(parts) != many:
        raise BadText(word, "size")
    return parts


def words_of(text):
    """Return the words of a text; the empty text is one empty word."""
    return text.split(" ")
