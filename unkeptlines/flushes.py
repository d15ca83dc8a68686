"""Flushes that are added to a net, so that it is right."""

from unkeptlines.agents import MOST_STEPS
from unkeptlines.clashes import order_without_clash
from unkeptlines.errors import NoMend, TooMany
from unkeptlines.judging import is_right
from unkeptlines.thirds import thirds


def flushed(net):
    """The net with a flush ahead of each read and write of a cache, and another one behind it."""
    rows = [_flushed_rows(agent) for agent in net.agents]
    if any([len(row) > MOST_STEPS for row in rows]):
        raise TooMany(MOST_STEPS)
    agents = [_with_rows(agent, row) for agent, row in zip(net.agents, rows)]
    return net.with_agents(*agents)


def mended(net, *, eager=True, whole=True):
    """The net with flushes added, none of which can be left out, such that it is right."""
    order_without_clash(net)
    if whole:
        for third in thirds(net):
            raise NoMend(third)
    full = flushed(net)
    # More flushes never make a right net wrong: so here one would take them all away again.
    if is_right(net, eager=eager, whole=whole):
        return net
    for a, s in _added_places(net):
        shorter = _without(full, a, s)
        if is_right(shorter, eager=eager, whole=whole):
            full = shorter
    return full


def _flushed_rows(agent):
    """The rows (step, whether it is added) of an agent with all flushes."""
    rows = []
    for step in agent.steps:
        is_guarded = agent.CACHED and step[0] in ("read", "write")
        if is_guarded:
            rows.append((("flush", *step[1:]), True))
        rows.append((step, False))
        if is_guarded:
            rows.append((("flush", *step[1:]), True))
    return rows


def _with_rows(agent, rows):
    steps = [step for step, _ in rows]
    return agent.with_steps(*steps)


def _added_places(net):
    """The places of the added flushes in the flushed net, from the last one to the first one."""
    places = []
    for a, agent in enumerate(net.agents):
        for s, (_, is_added) in enumerate(_flushed_rows(agent)):
            if is_added:
                places.append((a, s))
    return places[::-1]


def _without(net, a, s):
    """The net without one step."""
    agents = list(net.agents)
    agent = agents[a]
    steps = [*agent.steps[:s], *agent.steps[s + 1:]]
    agents[a] = agent.with_steps(*steps)
    return net.with_agents(*agents)
