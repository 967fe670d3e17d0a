"""Texts of works and stops, and of a work together with its stops."""

from firmstops.errors import BadText
from firmstops.numbertext import parts_of, read_numbers, words_of
from firmstops.ratios import ratio_text
from firmstops.stops import check_stops
from firmstops.works import Work

NO_STOPS = "none"


def work_text(work):
    """Return the text of a work: a word X,Y for each corner."""
    return " ".join([ratio_text(corner[0]) + "," + ratio_text(corner[1]) for corner in work.corners])


def parse_work(text):
    """Return the work of a text."""
    corners = []
    for word, told in enumerate(words_of(text)):
        corners.append(read_numbers(parts_of(told, ",", 2, word), word))
    return Work(corners)


def stops_text(work, stops):
    """Return the text of stops: a word SIDE:SPOT for each stop, or none."""
    kept = check_stops(work, stops)
    if len(kept) == 0:
        return NO_STOPS
    return " ".join([str(side) + ":" + ratio_text(spot) for side, spot in kept])


def read_side(number, word):
    """Return the whole number that a ratio is; errors tell the place of the word."""
    if number[1] != 1:
        raise BadText(word, "number")
    return number[0]


def parse_stops(work, text):
    """Return the stops of a text."""
    if text == NO_STOPS:
        return ()
    stops = []
    for word, told in enumerate(words_of(text)):
        side, spot = read_numbers(parts_of(told, ":", 2, word), word)
        stops.append((read_side(side, word), spot))
    return check_stops(work, stops)


def case_text(work, stops):
    """Return the text of a work and of its stops, with a line feed between."""
    return work_text(work) + "\n" + stops_text(work, stops)


def parse_case(text):
    """Return the work and the stops of a text of two rows."""
    if text.count("\n") != 1:
        raise BadText(0, "rows")
    first, _, second = text.partition("\n")
    work = parse_work(first)
    return (work, parse_stops(work, second))
