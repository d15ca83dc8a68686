"""Which steps write which bytes, in which rounds."""

from unkeptlines.steps import WRITE_WORDS


def writes_by_address(net):
    """For each address that is written: the rows (place, rests) of its writes.

    The write touches the address in the rounds that have one of these rests by ring.
    """
    writes = {}
    places = list(net.accesses())
    for place in places:
        if net.step(place)[0] in WRITE_WORDS:
            for rest in range(net.ring):
                for address in net.touched(place, rest):
                    writes.setdefault(address, {}).setdefault(place, []).append(rest)
    return {address: list(writes[address].items()) for address in writes}


def groups_of(writes):
    """For each address that is written a number, the same one for addresses with equal rows."""
    numbers = {}
    groups = {}
    for address, rows in writes.items():
        key = tuple([(place, tuple(rests)) for place, rests in rows])
        groups[address] = numbers.setdefault(key, len(numbers))
    return groups


def last_round(rests, ring, most):
    """The greatest round up to most that has one of these rests by ring."""
    return max([int(most - (most - rest) % ring) for rest in rests])
