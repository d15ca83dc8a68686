"""Signals, which are counted."""

from unkeptlines.errors import NoPart
from unkeptlines.kinds import is_name, is_within

MOST_TOKENS = 3


class Signal:
    """A signal with the tokens that it has at first."""

    def __init__(self, name, tokens=0):
        if not is_name(name):
            raise NoPart("name", None)
        if not is_within(tokens, 0, MOST_TOKENS):
            raise NoPart("tokens", None)
        self.name = name
        self.tokens = tokens

    def __eq__(self, other):
        return isinstance(other, Signal) and self.name == other.name and self.tokens == other.tokens
