"""A stand that is led by calls, some of which are taken back."""

from silencers.calls import behind_call, told_by
from silencers.parts import bits_of, check_number, check_part, check_stand, lot_of, tied_bits


class Run:
    """A stand of a web and the calls behind it.

    Each call is kept as (part, what it told, the stand ahead of it as bits),
    so that it can be taken back.
    """

    def __init__(self, web, stand):
        check_stand(web, stand)
        self._web = web
        self._tied = tied_bits(web)
        self._bits = bits_of(stand)
        self._calls = []

    def call(self, part):
        check_part(self._web, part)
        ahead = self._bits
        told = told_by(self._tied, ahead, part)
        self._bits = behind_call(self._tied, ahead, part)
        self._calls.append((part, told, ahead))
        return told

    def stand(self):
        return lot_of(self._bits)

    def log(self):
        return [(part, told) for part, told, _ in self._calls]

    def changes(self):
        return len([part for part, told, ahead in self._calls if told != bool((ahead >> part) & 1)])

    def back(self, many):
        check_number(many, 1, len(self._calls))
        self._bits = self._calls[-many][2]
        del self._calls[-many:]

    def copy(self):
        other = Run(self._web, ())
        other._bits = self._bits
        other._calls = list(self._calls)
        return other

    def trying(self, action):
        bits = self._bits
        calls = list(self._calls)
        try:
            return action(self)
        finally:
            self._bits = bits
            self._calls = calls
