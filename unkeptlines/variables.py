"""Variables with their slots, and the lines of addresses."""

from unkeptlines.errors import NoPart
from unkeptlines.kinds import is_name, is_within

GREATEST_SIZE = 8
MOST_SLOTS = 4
ADDRESSES = 1024


class Variable:
    """A variable with one slot or several, each at an address of its own."""

    def __init__(self, name, size, *at):
        if not is_name(name):
            raise NoPart("name", None)
        if not is_within(size, 1, GREATEST_SIZE):
            raise NoPart("size", None)
        if not 1 <= len(at) <= MOST_SLOTS:
            raise NoPart("slots", None)
        _check_addresses(size, at)
        _check_slots_apart(size, at)
        self.name = name
        self.size = size
        self.at = at

    @classmethod
    def made(cls, name, size, at):
        """The variable with the addresses in a tuple or list."""
        return cls(name, size, *at)

    def __len__(self):
        return len(self.at)

    def __getitem__(self, at):
        return self.at[at]

    def __iter__(self):
        raise TypeError("a variable is not iterated over: take its attribute at")

    def __eq__(self, other):
        return (isinstance(other, Variable) and self.name == other.name
                and self.size == other.size and self.at == other.at)


def _check_addresses(size, at):
    for k, address in enumerate(at):
        if not is_within(address, 0, ADDRESSES - size):
            raise NoPart("address", k)


def _check_slots_apart(size, at):
    for k, address in enumerate(at):
        if any([abs(address - earlier) < size for earlier in at[:k]]):
            raise NoPart("bytes", k)


def lines_of(addresses, line):
    """The lines of some addresses, ascending, each once."""
    return tuple(sorted(set([int(address // line) for address in addresses])))
