"""Faults: bytes of reads that do not surely get the value that was written last."""

from unkeptlines.handing import arrival_at, is_kept, lost_at, sent_at, told_write
from unkeptlines.spoiling import spoilt_by
from unkeptlines.steps import READ_WORDS
from unkeptlines.views import View


class Fault:
    """A wrong byte of a read, with the reason why."""

    def __init__(self, read, address, word, write, cause):
        self.place = read[0]
        self.round = read[1]
        self.address = address
        self.word = word
        self.write = write
        self.cause = cause
        self._rank = (read[0], read[1], address)

    def __eq__(self, other):
        if not isinstance(other, Fault):
            return NotImplemented
        return self._rank == other._rank

    def __lt__(self, other):
        if not isinstance(other, Fault):
            return NotImplemented
        return self._rank < other._rank


def faults(net, order, *, eager=True, whole=True):
    """Yields the faults, by places, rounds and addresses."""
    view = View(net, order, eager)
    # The view keeps what the loop asks of it: so no generator is walked meanwhile.
    places = list(net.accesses())
    for place in places:
        if net.step(place)[0] in READ_WORDS:
            for n in range(net.ring):
                for address in net.touched(place, n):
                    fault = _fault_at(view, (place, n), address, whole)
                    if fault is not None:
                        yield fault


def _fault_at(view, read, address, whole):
    # A byte that nothing writes has the start value for ever.
    if address not in view.writes:
        return None
    line = address // view.net.line
    write = told_write(view, read, address)
    if write is None:
        return Fault(read, address, "due", None, None)
    sent = sent_at(view, write, line)
    if is_kept(view, read, write):
        drop = lost_at(view, read, write, line)
        if drop is not None:
            return Fault(read, address, "lost", write, drop)
    else:
        arrival = arrival_at(view, read, line)
        if not view.is_ahead(sent, arrival):
            return Fault(read, address, "unsent", write, (sent, arrival))
    spoiler = spoilt_by(view, read, write, sent, line, address, whole)
    return None if spoiler is None else Fault(read, address, "spoilt", write, spoiler)
