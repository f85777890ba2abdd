"""The desk: webs that are kept under names, and what is told of them line by line."""

from silencers.calls import called, is_rest
from silencers.coming import can_come, lumps, sure_end
from silencers.errors import NoLine, NoName, NothingDone
from silencers.healing import heals
from silencers.reading import lot_in, number_of, read_web
from silencers.rests import many_rests
from silencers.strokes import sure_stroke
from silencers.texts import lot_text, web_text

MOST_NAME_LETTERS = 8
FORMS = {
    "names": (), "undo": (), "drop": ("name",), "show": ("name",), "many": ("name",), "rest": ("name", "lot"),
    "call": ("name", "lot", "number"), "lumps": ("name", "lot"), "come": ("name", "lot", "lot"),
    "sure": ("name", "lot"), "stroke": ("name", "lot", "lot"), "heals": ("name", "lot", "number"),
}


def name_in(word):
    """The name that the word is, or None."""
    right = word.isascii() and word.isalpha() and word.islower() and len(word) <= MOST_NAME_LETTERS
    return word if right else None


def value_in(word, kind):
    """What a word of this kind tells, or None."""
    if kind == "name":
        return name_in(word)
    return number_of(word) if kind == "number" else lot_in(word.replace(",", " "))


def values_in(line):
    """The list of what the words behind the first one tell: NoLine."""
    words = line.split(" ")
    kinds = FORMS.get(words[0])
    if kinds is None or len(words) != len(kinds) + 1:
        raise NoLine()
    values = [value_in(word, kind) for word, kind in zip(words[1:], kinds)]
    if None in values:
        raise NoLine()
    return values


def check_line(thing):
    if not isinstance(thing, str) or "\n" in thing:
        raise NoLine()


def yes_or_no(flag):
    return "yes" if flag else "no"


def lot_word(lot):
    return lot_text(lot).replace(" ", ",")


def word_or_open(lot):
    return "open" if lot is None else lot_word(lot)


def tell_show(web):
    return web_text(web).replace("\n", "|")


def tell_many(web):
    return str(many_rests(web))


def tell_rest(web, thing):
    return yes_or_no(is_rest(web, thing))


def tell_call(web, stand, part):
    return lot_word(called(web, stand, part))


def tell_lumps(web, stand):
    return " ".join([lot_word(lump) for lump in lumps(web, stand)]) or "none"


def tell_come(web, stand, rest):
    return yes_or_no(can_come(web, stand, rest))


def tell_sure(web, stand):
    return word_or_open(sure_end(web, stand))


def tell_stroke(web, up, down):
    return word_or_open(sure_stroke(web, (up, down)))


def tell_heals(web, rest, many):
    return yes_or_no(heals(web, rest, many))


TOLD_OF = {
    "show": tell_show, "many": tell_many, "rest": tell_rest, "call": tell_call, "lumps": tell_lumps, "come": tell_come,
    "sure": tell_sure, "stroke": tell_stroke, "heals": tell_heals,
}


class Desk:
    """Webs under their names, and the pairs (name, web) of what stood there ahead of each line that can be undone.

    In such a pair None stands for no web.
    """

    def __init__(self):
        self._webs = {}
        self._ahead = []

    def tell(self, line):
        check_line(line)
        word, _, behind = line.partition(" ")
        if word == "web":
            return self._keep(behind)
        values = values_in(line)
        if word == "names":
            return " ".join(sorted(list(self._webs))) or "none"
        if word == "undo":
            return self._undo()
        name = values[0]
        if name not in self._webs:
            raise NoName(name)
        if word == "drop":
            return self._change(name, None)
        web = self._webs[name]
        more = values[1:]
        action = TOLD_OF[word]
        return action(web, *more)

    def undoable(self):
        return len(self._ahead)

    def _keep(self, behind):
        """What a line tells with this behind its word web."""
        word, _, text = behind.partition(" ")
        if name_in(word) is None or not text:
            raise NoLine()
        return self._change(word, read_web(text.replace("|", "\n")))

    def _change(self, name, web):
        self._ahead.append((name, self._webs.get(name)))
        return self._set(name, web)

    def _undo(self):
        if not self._ahead:
            raise NothingDone()
        name, web = self._ahead.pop()
        return self._set(name, web)

    def _set(self, name, web):
        if web is None:
            del self._webs[name]
        else:
            self._webs[name] = web
        return "ok"
