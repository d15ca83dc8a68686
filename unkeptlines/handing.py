"""How the value of a write comes to a read: the last write, and where its value is sent and arrives."""

from unkeptlines.writes import last_round


def told_write(view, read, address):
    """The last write of a byte that is ahead of a read, as far as the order tells; None if it does not."""
    # Bytes that are written by the same steps have the same last write.
    key = (read, view.groups[address])
    if key not in view.told:
        view.told[key] = _told_among(view, read, view.writes[address])
    return view.told[key]


def _told_among(view, read, rows):
    for place, rests in rows:
        least = view.least(place, read[0])
        if least is not None:
            write = (place, last_round(rests, view.net.ring, read[1] - least))
            if _is_last(view, rows, write, read):
                return write
    return None


def _is_last(view, rows, write, read):
    for row in rows:
        if not _is_passed(view, row, write, read):
            return False
    return True


def _is_passed(view, row, write, read):
    """Whether each instance of the write in row, but for write itself, is ahead of write or behind the read."""
    place, rests = row
    behind = view.least(read[0], place)
    if behind is None:
        return False
    latest = last_round(rests, view.net.ring, read[1] + behind - 1)
    if place == write[0]:
        return latest <= write[1]
    return view.is_ahead((place, latest), write)


def is_kept(view, read, write):
    """Whether the value stays in the cache of one agent: a step read and a step write of it."""
    is_one = read[0][0] == write[0][0]
    return is_one and view.agent_of(read).CACHED and view.word_of(read) == "read" and view.word_of(write) == "write"


def lost_at(view, read, write, line):
    """The drop that throws away, ahead of the read, what a write wrote that is kept together with it, or None."""
    if view.agent_of(write).KIND != "back":
        return None
    upkeep = view.upkeep_behind(write, line)
    if upkeep is not None and view.word_of(upkeep) == "drop" and view.is_ahead(upkeep, read):
        return upkeep
    return None


def sent_at(view, write, line):
    """Where the value comes into the memory, without any doing of the cache itself, or None."""
    if view.word_of(write) == "put" or view.agent_of(write).KIND != "back":
        return write
    upkeep = view.upkeep_behind(write, line)
    return None if upkeep is None or view.word_of(upkeep) == "drop" else upkeep


def arrival_at(view, read, line):
    """The earliest moment at which the value that is read can have been taken from the memory, or None."""
    if view.word_of(read) == "get" or not view.agent_of(read).CACHED:
        return read
    return view.source_ahead(read, line)
