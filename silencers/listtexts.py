"""Lists and logs as texts, and read back from them."""

from silencers.errors import BadText
from silencers.lists import List
from silencers.logs import check_log
from silencers.reading import check_closed, check_string, closed_lines, lot_in, number_behind, number_of
from silencers.texts import lot_text


def list_text(a_list):
    lines = [f"places {a_list.places}\n"] + [f"{lot_text(stand)}\n" for stand in a_list.stands]
    return "".join(lines)


def read_list(text):
    check_string(text)
    found = []
    for at, line in enumerate(closed_lines(text)):
        told = lot_in(line) if at else number_behind("places", line)
        if told is None:
            raise BadText(at + 1)
        found.append(told)
    check_closed(text)
    return List(found[0], tuple(found[1:]))


def call_line(part, told):
    return f"call {part} yes\n" if told else f"call {part} no\n"


def log_text(log):
    check_log(log)
    size, stand, calls = log
    lines = [f"parts {size}\n", f"stand {lot_text(stand)}\n"]
    return "".join(lines + [call_line(part, told) for part, told in calls])


def stand_in(line):
    """The lot of a line as the second one of a log, or None."""
    word, _, behind = line.partition(" ")
    return lot_in(behind) if word == "stand" else None


def call_in(line):
    """The pair (part, flag) of a line of a call, or None."""
    words = line.split(" ")
    if len(words) != 3 or words[0] != "call" or words[2] not in ("yes", "no"):
        return None
    part = number_of(words[1])
    return None if part is None else (part, words[2] == "yes")


def told_in(at, line):
    """What the line with this number tells in a log's text, or None."""
    if at == 0:
        return number_behind("parts", line)
    return stand_in(line) if at == 1 else call_in(line)


def read_log(text):
    check_string(text)
    found = []
    for at, line in enumerate(closed_lines(text)):
        told = told_in(at, line)
        if told is None:
            raise BadText(at + 1)
        found.append(told)
    check_closed(text)
    if len(found) < 2:
        raise BadText(len(found) + 1)
    log = (found[0], found[1], tuple(found[2:]))
    check_log(log)
    return log
