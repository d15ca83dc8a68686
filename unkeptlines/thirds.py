"""Third writes: what no flushes can mend where caches write whole lines back."""

from unkeptlines.clashes import order_without_clash
from unkeptlines.handing import told_write
from unkeptlines.steps import READ_WORDS
from unkeptlines.views import View


def thirds(net):
    """Yields (write, i, third, j, x, y), ascending, for each third write."""
    order = order_without_clash(net)
    for write, i, third, j, due, others in third_pairs(net, order):
        for x in due:
            for y in others:
                if x // net.line == y // net.line:
                    yield (write, i, third, j, x, y)


def third_pairs(net, order):
    """Yields (write, i, third, j, due, others), ascending, for writes that would be third ones on one long line.

    The write is due for the bytes in due; the bytes in others are those of the other write.
    """
    due_bytes = _due_bytes(net, order)
    rivals = [place for place in net.accesses() if _can_be_third(net, place)]
    for write in net.accesses():
        rests = [rest for rest in range(net.ring) if (write, rest) in due_bytes]
        pairs = _pairs_of(net, order, write, rests, rivals)
        for i in sorted([int(one) for one in pairs]):
            for third, rounds in pairs[i].items():
                for j in sorted([int(one) for one in rounds]):
                    yield (write, i, third, j, due_bytes[(write, i % net.ring)], net.touched(third, j))


def _can_be_third(net, place):
    return net.agents[place[0]].KIND == "back" and net.step(place)[0] == "write"


def _due_bytes(net, order):
    """For each (write, rest) the bytes for which the write is due, ascending, in the rounds with this rest."""
    view = View(net, order, True)
    found = {}
    places = list(net.accesses())
    for place in places:
        if net.step(place)[0] in READ_WORDS:
            for n in range(net.ring):
                for address in net.touched(place, n):
                    if address in view.writes:
                        write, k = told_write(view, (place, n), address)
                        found.setdefault((write, k % net.ring), {})[address] = True
    return {key: tuple(sorted([int(address) for address in found[key]])) for key in found}


def _pairs_of(net, order, write, rests, rivals):
    """For each round i of a write the other writes, and for each of these the rounds j."""
    pairs = {}
    for third in rivals:
        if third[0] != write[0]:
            least = order.lag(write, third).rounds
            behind = order.lag(third, write).rounds
            for rest in rests:
                for other_rest in range(net.ring):
                    found = first_pair(net.ring, rest, other_rest, least, behind)
                    if found is not None:
                        i, j = found
                        pairs.setdefault(i, {}).setdefault(third, []).append(j)
    return pairs


def first_pair(ring, rest, other_rest, least, behind):
    """The first rounds (i, j) with these rests in which neither write is ahead of the other, or None.

    The one is ahead of the other if j - i is at least least, the other of the one if i - j is at least behind.
    """
    # In round rest + ring either a j below ring is early enough, or nothing is new in any later round but the rests.
    for i in (rest, rest + ring):
        low = 0 if behind is None or i < behind else i - behind + 1
        j = low + (other_rest - low) % ring
        if least is None or j - i < least:
            return (i, j)
    return None
