"""Accesses that nothing orders, and runs after which two steps are next."""

from unkeptlines.errors import Clashes
from unkeptlines.orders import Order
from unkeptlines.steps import WRITE_WORDS
from unkeptlines.walks import Walk


def meeting(net, one, n, other, m):
    """A run after which (one, n) and (other, m) are next; None if one is ahead of the other."""
    net.step(one)
    net.step(other)
    order = Order(net)
    if one[0] == other[0] or order.ahead(one, n, other, m) or order.ahead(other, m, one, n):
        return None
    walk = Walk(net, order)
    names = walk.up_to(one, n)
    names.extend(walk.up_to(other, m))
    return tuple(names)


def clash(net):
    """Two accesses that clash, as (one, n, other, m); None if there are none."""
    return clash_by(net, Order(net))


def order_without_clash(net):
    """The order of a net; raises Stands if it stands still, then Clashes if it has a clash."""
    order = Order(net)
    found = clash_by(net, order)
    if found is not None:
        raise Clashes(found[0], found[2])
    return order


def clash_by(net, order):
    """Two accesses that clash as far as an order tells, an Order or a Known; None if there are none."""
    places = list(net.accesses())
    for k, one in enumerate(places):
        for other in places[k + 1:]:
            if _are_rivals(net, one, other):
                apart = _rounds_apart(net, order, one, other)
                if apart is not None:
                    n = 0 if apart >= 0 else -apart
                    return (one, n, other, n + apart)
    return None


def _are_rivals(net, one, other):
    """Whether two accesses are such that they clash if they are in the same slot and unordered."""
    word, name, _, first, last = net.step(one)
    other_word, other_name, _, other_first, other_last = net.step(other)
    if one[0] == other[0] or name != other_name:
        return False
    if word not in WRITE_WORDS and other_word not in WRITE_WORDS:
        return False
    return first <= other_last and other_first <= last


def _rounds_apart(net, order, one, other):
    """A number of rounds such that other, so much later than one, is in its slot and unordered with it, or None."""
    name, shift = net.step(one)[1:3]
    slots = len(net[name])
    rest = shift - net.step(other)[2]
    above = order.lag(other, one).rounds
    below = order.lag(one, other).rounds
    if above is not None:
        least = 1 - above
        apart = least + (rest - least) % slots
        return apart if below is None or apart < below else None
    if below is not None:
        most = below - 1
        return most - (most - rest) % slots
    return rest % slots
