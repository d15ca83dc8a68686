"""Which caches can write an old value over a new one."""

from unkeptlines.views import shifted
from unkeptlines.writes import last_round


def spoilt_by(view, read, write, sent, line, address, whole):
    """What spoils the value of a write ahead of a read: (name, first, end, source), or None."""
    for number, agent in enumerate(view.net.agents):
        # An agent's own writes cannot spoil what it wrote into the same copy.
        if agent.KIND == "back" and (number != write[0][0] or view.word_of(write) == "put"):
            if whole:
                found = _spoilt_whole(view, number, read, write, sent, line)
            else:
                found = _spoilt_changed(view, number, write, line, address)
            if found is not None:
                return (agent.name, *found)
    return None


def _spoilt_whole(view, number, read, write, sent, line):
    """A spell of this agent that spoils, as (first, end, source), all None for an endless one; None if none does."""
    for spell in view.spells_of(number, line):
        if spell is None:
            return (None, None, None)
        rings = _rings_of(view, spell, read, write, sent)
        if rings is not None:
            rounds = rings * view.net.ring
            return tuple([shifted(part, rounds) for part in spell])
    return None


def _rings_of(view, spell, read, write, sent):
    """By how many rings the spell is shifted if it spoils; first comes as near to the read as it can. Or None."""
    first, end, source = spell
    rings = (read[1] - first[1]) // view.net.ring
    behind = view.least(end[0], write[0])
    # Shifted by less, the end is ahead of the write.
    least = None if behind is None else (write[1] - end[1] - behind) // view.net.ring + 1
    if least is not None and rings < least:
        rings = least
    for one, other in ((read, first), (sent, source)):
        most = _most_rings(view, one, other)
        if most is not None and rings > most:
            rings = most
    return rings if least is None or rings >= least else None


def _most_rings(view, one, other):
    """By how many rings other can be shifted such that one is not ahead of it; None if without limit."""
    rounds = None if one is None or other is None else view.least(one[0], other[0])
    return None if rounds is None else (one[1] + rounds - other[1] - 1) // view.net.ring


def _spoilt_changed(view, number, write, line, address):
    """The last step write of the byte by this agent ahead of the write, if it may be written back behind it."""
    first = None
    for place, rests in view.writes[address]:
        if place[0] == number and view.word_of((place, 0)) == "write":
            # There is such a lag: the order tells that write is the last one.
            other = (place, last_round(rests, view.net.ring, write[1] - view.least(place, write[0])))
            first = other if first is None or view.is_ahead(first, other) else first
    if first is None:
        return None
    end = view.upkeep_behind(first, line)
    return None if view.is_ahead(end, write) else (first, end, None)
