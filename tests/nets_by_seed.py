"""Small nets for the tests, the same ones at each run, and what is told of them in another way."""

import random

from unkeptlines.agents import Agent
from unkeptlines.nets import Net
from unkeptlines.signals import Signal
from unkeptlines.variables import Variable


def net_by_seed(seed):
    """A net with signals in random places; about a half of them stands still."""
    chance = random.Random(seed)
    rows = [[("read", "x", 0, 0, 0)] * chance.randint(0, 2) for _ in range(chance.randint(1, 4))]
    signals = []
    for name in ["s" + sign for sign in "abcdef"[:chance.randint(0, 6)]]:
        signals.append(Signal(name, chance.choice((0, 0, 1, 1, 2, 3))))
        for word in ("post", "wait"):
            row = chance.choice(rows)
            row.insert(chance.randint(0, len(row)), (word, name))
    agents = [Agent("a" + "abcd"[k], *row) for k, row in enumerate(rows) if row]
    return Net(Variable("x", 1, 0), *signals, *agents)


def pairs_of(net):
    """All (place, neighbour, sum), perhaps several for one pair."""
    pairs = []
    for a, agent in enumerate(net.agents):
        for s, step in enumerate(agent.steps):
            pairs.append(((a, s), (a, s + 1), 0) if s + 1 < len(agent.steps) else ((a, s), (a, 0), 1))
            if step[0] == "post":
                signal = [one for one in net.signals if one.name == step[1]][0]
                for b, other in enumerate(net.agents):
                    for t, wait in enumerate(other.steps):
                        if wait == ("wait", step[1]):
                            pairs.append(((a, s), (b, t), signal.tokens))
    return pairs


def all_lags(net):
    """The least sums of ways between all places, as a dict, found by relaxing all pairs again and again."""
    least = {}
    for one, other, more in pairs_of(net):
        least[one, other] = min(more, least.get((one, other), more))
    for middle in net.places():
        for one in net.places():
            for other in net.places():
                if (one, middle) in least and (middle, other) in least:
                    total = least[one, middle] + least[middle, other]
                    least[one, other] = min(total, least.get((one, other), total))
    return least


def goes_without(net, place, n, rounds):
    """The instances with rounds below a limit that are done in a run in which (place, n) is never done."""
    tokens = {signal.name: signal.tokens for signal in net.signals}
    at = [(0, 0) for _ in net.agents]
    done = set()
    moved = True
    while moved:
        moved = False
        for a, agent in enumerate(net.agents):
            s, m = at[a]
            step = agent.steps[s]
            stopped = (a, s) == place and m == n
            blocked = step[0] == "wait" and tokens[step[1]] == 0
            if m < rounds and not stopped and not blocked:
                if step[0] in ("post", "wait"):
                    tokens[step[1]] += 1 if step[0] == "post" else -1
                done.add(((a, s), m))
                at[a] = (s + 1, m) if s + 1 < len(agent.steps) else (0, m + 1)
                moved = True
    return done
