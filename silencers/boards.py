"""A web that is live: its ties and its stand are changed step by step, and the steps taken back."""

from silencers.calls import called, changers, tells
from silencers.coming import ends
from silencers.errors import NothingDone
from silencers.parts import bits_of, check_part, lot_of
from silencers.webs import tie, untie


class Board:
    """A web and a stand, and the pairs (web, stand) ahead of each deed that is not taken back."""

    def __init__(self, web):
        self._web = web
        self._stand = ()
        self._ahead = []

    def _do(self, web, stand):
        """A deed that leads to this web and stand."""
        self._ahead.append((self._web, self._stand))
        self._web = web
        self._stand = stand

    def tie(self, a, b):
        self._do(tie(self._web, a, b), self._stand)

    def untie(self, a, b):
        self._do(untie(self._web, a, b), self._stand)

    def put(self, part):
        check_part(self._web, part)
        self._do(self._web, lot_of(bits_of(self._stand) | (1 << part)))

    def drop(self, part):
        check_part(self._web, part)
        self._do(self._web, lot_of(bits_of(self._stand) & ~(1 << part)))

    def call(self, part):
        told = tells(self._web, self._stand, part)
        self._do(self._web, called(self._web, self._stand, part))
        return told

    def web(self):
        return self._web

    def stand(self):
        return self._stand

    def changers(self):
        return changers(self._web, self._stand)

    def ends(self):
        return ends(self._web, self._stand)

    def back(self):
        if not self._ahead:
            raise NothingDone()
        self._web, self._stand = self._ahead.pop()

    def deeds(self):
        return len(self._ahead)

    def copy(self):
        other = Board(self._web)
        other._stand = self._stand
        other._ahead = list(self._ahead)
        return other
