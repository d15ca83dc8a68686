"""Neighbours of places, and the ways that lead from place to place."""

from unkeptlines.errors import NoWay
from unkeptlines.lags import Lag


def neighbours(net, place):
    """The neighbours of a place with their sums, ascending."""
    net.step(place)
    pairs = list(_beside(net, _waits(net), place).items())
    # No place has more than two neighbours.
    if len(pairs) == 2 and pairs[1] < pairs[0]:
        return [pairs[1], pairs[0]]
    return pairs


def _waits(net):
    """For each signal, by name, its wait and its tokens."""
    tokens = {signal.name: signal.tokens for signal in net.signals}
    waits = {}
    places = list(net.places())
    for place in places:
        word, name = net.step(place)[:2]
        if word == "wait":
            waits[name] = (place, tokens[name])
    return waits


def _beside(net, waits, place):
    """The sums of the neighbours of a place, by neighbours."""
    agent, at = place
    steps = net.agents[agent].steps
    beside = {(agent, at + 1): 0} if at + 1 < len(steps) else {(agent, 0): 1}
    word, name = steps[at][:2]
    if word == "post":
        wait, tokens = waits[name]
        beside[wait] = min(int(tokens), beside.get(wait, tokens))
    return beside


def neighbour_table(net):
    """For each place the sums of its neighbours, by neighbours."""
    waits = _waits(net)
    return {place: _beside(net, waits, place) for place in net.places()}


def sum_of(net, way):
    """The sum of a way."""
    return sum_along(net, neighbour_table(net), way)


def sum_along(net, table, row):
    """The sum of row, any value, if it is a way; table is the neighbour_table of the net."""
    if not isinstance(row, tuple) or len(row) < 2:
        raise NoWay(0)
    total = 0
    for k, place in enumerate(row):
        if not net.is_place(place):
            raise NoWay(k)
        if k > 0:
            sums = table[row[k - 1]]
            if place not in sums:
                raise NoWay(k)
            total = total + sums[place]
    return total


def reached_from(table, start):
    """For each place to which a way leads from start: the least sum, and the place before it."""
    reached = {}
    queue = [(start, 0)]
    k = 0
    while k < len(queue):
        place, total = queue[k]
        k += 1
        for following, more in table[place].items():
            if following not in reached or total + more < reached[following][0]:
                reached[following] = (total + more, place)
                queue.append((following, total + more))
    return reached


def way_back(reached, start, end):
    """The way from start to end, read backwards from what reached_from told of start."""
    row = [end]
    place = reached[end][1]
    while place != start:
        row.append(place)
        place = reached[place][1]
    row.append(start)
    return tuple(row[::-1])


def lag(net, one, other):
    """The least sum of a way from one to other, as a lag."""
    net.step(one)
    net.step(other)
    reached = reached_from(neighbour_table(net), one)
    return Lag(reached[other][0]) if other in reached else Lag.none()


def way(net, one, other):
    """A way from one to other with the least sum; None if there is no way."""
    net.step(one)
    net.step(other)
    reached = reached_from(neighbour_table(net), one)
    return way_back(reached, one, other) if other in reached else None


def still(net):
    """A way with sum 0 that leads back to its first place; None if there is none."""
    table = neighbour_table(net)
    for place in net.places():
        # Such a way leads through a post: without one, an agent's own steps add up to 1.
        if net.step(place)[0] == "post":
            # Each place is reached from itself, round its own agent.
            reached = reached_from(table, place)
            if reached[place][0] == 0:
                return way_back(reached, place, place)
    return None
