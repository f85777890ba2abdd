"""Webs and lots read back from their texts."""

from silencers.errors import BadText
from silencers.webs import Web

MOST_FIGURES = 4


def number_of(word):
    """The number that the word is, or None."""
    if not word.isascii() or not word.isdigit() or len(word) > MOST_FIGURES:
        return None
    if word[0] == "0" and word != "0":
        return None
    return int(word)


def numbers_of(line):
    """The tuple of the numbers that the line is, or None."""
    found = tuple([number_of(word) for word in line.split(" ")])
    return None if None in found else found


def check_string(text):
    if not isinstance(text, str):
        raise BadText(0)


def closed_lines(text):
    return text.split("\n")[:-1]


def check_closed(text):
    """Whatever stands behind the last line feed is wrong there, and so is a text without lines.

    Its line is behind all closed ones, so this is asked when they are right.
    """
    lines = text.split("\n")
    if lines[-1] or len(lines) == 1:
        raise BadText(len(lines))


def number_behind(word, line):
    """The number that the line tells behind this word, or None."""
    ahead, _, behind = line.partition(" ")
    return number_of(behind) if ahead == word else None


def lot_in(line):
    """The tuple of the numbers of a lot as lot_text tells it, ascending or not, or None."""
    return () if line == "-" else numbers_of(line)


def pair_of(line):
    """The two numbers that the line is, or None."""
    found = numbers_of(line)
    return found if found is not None and len(found) == 2 else None


def read_web(text):
    check_string(text)
    found = []
    for at, line in enumerate(closed_lines(text)):
        told = pair_of(line) if at else number_behind("parts", line)
        if told is None:
            raise BadText(at + 1)
        found.append(told)
    check_closed(text)
    return Web(found[0], tuple(found[1:]))


def read_lot(text):
    check_string(text)
    found = lot_in(text)
    if found is None:
        raise BadText(1)
    return found
