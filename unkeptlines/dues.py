"""The writes whose values the reads should get."""

from unkeptlines.clashes import order_without_clash
from unkeptlines.errors import NoStep
from unkeptlines.steps import READ_WORDS
from unkeptlines.writes import last_round, writes_by_address


def due(net, place, n):
    """For each byte of a read in round n the last write ahead of it, as (place, round), or None."""
    if net.step(place)[0] not in READ_WORDS:
        raise NoStep(place)
    order = order_without_clash(net)
    writes = writes_by_address(net)
    addresses = net.touched(place, n)
    return tuple([_last_ahead(net, order, writes.get(address, ()), place, n) for address in addresses])


def _last_ahead(net, order, rows, place, n):
    """Of the writes in rows the last one that is ahead of (place, n), or None."""
    found = None
    for write, rests in rows:
        # Without a clash there is such a lag: each write of the byte is ordered with the read.
        k = last_round(rests, net.ring, n - order.lag(write, place).rounds)
        if k >= 0 and (found is None or order.ahead(found[0], found[1], write, k)):
            found = (write, k)
    return found
