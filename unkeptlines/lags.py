"""Lags: numbers of rounds, or none."""


class Lag:
    """A number of rounds; None for no lag, which is greater than all others."""

    def __init__(self, rounds):
        self.rounds = rounds
        self._rank = (1, 0) if rounds is None else (0, rounds)

    @staticmethod
    def none():
        """No lag."""
        return Lag(None)

    def __add__(self, other):
        if not isinstance(other, Lag):
            return NotImplemented
        if self.rounds is None or other.rounds is None:
            return Lag(None)
        return Lag(self.rounds + other.rounds)

    def __eq__(self, other):
        if not isinstance(other, Lag):
            return NotImplemented
        return self._rank == other._rank

    def __lt__(self, other):
        if not isinstance(other, Lag):
            return NotImplemented
        return self._rank < other._rank

    def __bool__(self):
        return self.rounds is not None
