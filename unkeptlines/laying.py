"""New addresses, at which no third write shares a line with what it spoils."""

from unkeptlines.clashes import order_without_clash
from unkeptlines.errors import NoLaying
from unkeptlines.nets import Net
from unkeptlines.thirds import third_pairs
from unkeptlines.variables import Variable


def laid(net):
    """The net with other addresses of its variables: the least ones that part all bytes that must part."""
    parting = _parting_bytes(net)
    # Each byte is told by its old address, also those at their new ones.
    moved = {}
    end = 0
    variables = []
    for variable in net.variables:
        at = []
        for slot, old in enumerate(variable.at):
            address = _least_address(net.line, parting, moved, old, variable.size, end)
            if address is None:
                raise NoLaying(variable.name, slot)
            for k in range(variable.size):
                moved[old + k] = address + k
            end = address + variable.size
            at.append(address)
        variables.append(Variable.made(variable.name, variable.size, at))
    return Net(*variables, *net.signals, *net.agents, line=net.line, ring=net.ring)


def pads(net):
    """The number of addresses below the end of the last slot that belong to no slot."""
    end = max([int(address + variable.size) for variable in net.variables for address in variable.at], default=0)
    return end - sum([variable.size * len(variable) for variable in net.variables])


def _parting_bytes(net):
    """For each byte that must part from others these others, by addresses."""
    order = order_without_clash(net)
    seen = {}
    parting = {}
    rows = list(third_pairs(net, order))
    for _, _, _, _, due, others in rows:
        if (due, others) not in seen:
            seen[(due, others)] = True
            for x in due:
                for y in others:
                    parting.setdefault(x, {})[y] = True
                    parting.setdefault(y, {})[x] = True
    return parting


def _least_address(line, parting, moved, old, size, end):
    """The least address from end on at which a slot parts all that must part; None if there is none."""
    # Where a line begins behind end, none of the earlier slots is near; and from there each rest by line occurs.
    for address in range(end, end + 2 * line):
        if _parts(line, parting, moved, old, size, address):
            return address
    return None


def _parts(line, parting, moved, old, size, address):
    """Whether a slot at this address has no byte on one line with a byte from which it must part."""
    for k in range(size):
        for other in parting.get(old + k, ()):
            there = address + other - old if 0 <= other - old < size else moved.get(other)
            if there is not None and there // line == (address + k) // line:
                return False
    return True
