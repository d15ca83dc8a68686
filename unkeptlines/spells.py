"""The stretches of steps in which a cache that writes back has a changed line."""

from unkeptlines.errors import NoName
from unkeptlines.steps import UPKEEP_WORDS
from unkeptlines.upkeep import last_source, nearest_ahead, next_upkeep


def spells(net, name, line, *, eager=True):
    """Yields (first, end, source) for each spell of an agent on a line that begins in the rounds of one ring."""
    number = _number_of(net, name)
    for place, n in _writes_of(net, number, line):
        end = next_upkeep(net, place, n, line)
        before = nearest_ahead(net, place, n, line, ("write", *UPKEEP_WORDS))
        if end is not None and net.step(before[0])[0] != "write":
            yield ((place, n), end, last_source(net, place, n, line, eager))


def endless(net, name, line):
    """Whether an agent that writes back has a step write of a line, and no upkeep of it."""
    number = _number_of(net, name)
    return any([next_upkeep(net, place, n, line) is None for place, n in _writes_of(net, number, line)])


def _number_of(net, name):
    for a, agent in enumerate(net.agents):
        if agent.name == name:
            return a
    raise NoName(name)


def _writes_of(net, number, line):
    """The step writes of a line in the rounds of one ring, for an agent that writes back; [] for others."""
    agent = net.agents[number]
    if agent.KIND != "back":
        return []
    writes = [((number, s), n) for n in range(net.ring) for s, step in enumerate(agent.steps) if step[0] == "write"]
    return [(place, n) for place, n in writes if line in net.lines(place, n)]
