"""The nearest steps of an agent that concern a line, behind an instance and ahead of it."""

from unkeptlines.steps import DROP_WORDS, UPKEEP_WORDS


def next_upkeep(net, place, n, line):
    """The first clean, drop or flush of the line behind (place, n), as (place, round), or None."""
    net.step(place)
    return nearest_behind(net, place, n, line, UPKEEP_WORDS)


def last_drop(net, place, n, line):
    """The last drop or flush of the line ahead of (place, n), or None."""
    net.step(place)
    return nearest_ahead(net, place, n, line, DROP_WORDS)


def first_access(net, place, n, line):
    """The first access behind (place, n) that concerns the line and could fetch it, or None."""
    net.step(place)
    return nearest_behind(net, place, n, line, fetching_words(net.agents[place[0]]))


def last_source(net, place, n, line, eager):
    """Where the copy that (place, n) finds was taken: at the last drop ahead of it, directly behind which an eager
    cache can fetch the line, or at the first access behind that drop if caches are calm; None if there is no drop.
    """
    drop = last_drop(net, place, n, line)
    if eager or drop is None:
        return drop
    return first_access(net, drop[0], drop[1], line)


def fetching_words(agent):
    """The words of the steps that can fetch a line into the cache of this agent."""
    if agent.KIND == "back":
        return ("read", "write")
    return ("read",) if agent.KIND == "through" else ()


def nearest_behind(net, place, n, line, words):
    """The first step of the agent of place behind (place, n) with one of these words that concerns the line."""
    agent, at = place
    rows = _steps_with(net, agent, words)
    # What concerns the line concerns it again after a ring: so further off there is nothing new.
    for m in range(n, n + net.ring + 1):
        for s in rows:
            if (m, s) > (n, at) and line in net.lines((agent, s), m):
                return ((agent, s), m)
    return None


def nearest_ahead(net, place, n, line, words):
    """The last step of the agent of place ahead of (place, n) with one of these words that concerns the line."""
    agent, at = place
    rows = _steps_with(net, agent, words)[::-1]
    for m in range(n, n - net.ring - 1, -1):
        for s in rows:
            if (m, s) < (n, at) and line in net.lines((agent, s), m):
                return ((agent, s), m)
    return None


def _steps_with(net, agent, words):
    return [s for s, step in enumerate(net.agents[agent].steps) if step[0] in words]
