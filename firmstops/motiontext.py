"""Texts of motions and pulls."""

from firmstops.errors import BadText
from firmstops.motions import check_motion
from firmstops.numbertext import read_numbers, words_of
from firmstops.ratios import ratio_text


def motion_text(motion):
    """Return the text of a motion or a pull: its three numbers as words."""
    return " ".join([ratio_text(number) for number in check_motion(motion)])


def parse_motion(text):
    """Return the motion or the pull of a text."""
    words = words_of(text)
    if len(words) != 3:
        raise BadText(0, "size")
    return tuple([read_numbers([told], word)[0] for word, told in enumerate(words)])
