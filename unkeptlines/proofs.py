"""What some ways prove of a net, and which ways are needed for it."""

from unkeptlines.clashes import clash_by
from unkeptlines.faults import faults
from unkeptlines.orders import Known, ways_between
from unkeptlines.ways import neighbour_table


def is_enough(net, ways, eager, whole):
    """Whether some ways, any values, tell that each read of a net that goes on is right; raises NoWay as Known."""
    known = Known.made(net, ways)
    if clash_by(net, known) is not None:
        return False
    for _ in faults(net, known, eager=eager, whole=whole):
        return False
    return True


def needed_ways(net, eager, whole):
    """Ways that are enough for a right net; without any one of them the others are not."""
    ways = tuple(ways_between(net))
    k = 0
    # More ways tell more: so a way that is needed beside others is needed beside fewer, too.
    while k < len(ways):
        fewer = (*ways[:k], *ways[k + 1:])
        if is_enough(net, fewer, eager, whole):
            ways = fewer
        else:
            k += 1
    return ways


def row_of_all(net):
    """All places of a net that goes on, such that the neighbours of each with sum 0 stand behind it."""
    table = neighbour_table(net)
    waits = {place: 0 for place in table}
    for sums in table.values():
        for following, total in sums.items():
            if total == 0:
                waits[following] += 1
    row = [place for place in table if waits[place] == 0]
    k = 0
    while k < len(row):
        place = row[k]
        for following, total in table[place].items():
            if total == 0:
                waits[following] -= 1
                if waits[following] == 0:
                    row.append(following)
        k += 1
    return tuple(row)
