"""Stages 7 and 8 worked out word by word, by walking over the steps of many rounds."""

UPKEEP = ("clean", "drop", "flush")
FAR = 36


def instances(net, agent, low, high):
    """The instances of an agent in some rounds, in its order."""
    return [((agent, s), n) for n in range(low, high) for s in range(len(net.agents[agent].steps))]


def behind(net, one, words, line):
    """The first instance of the agent behind this one with one of these words on the line."""
    (agent, at), n = one
    for place, m in instances(net, agent, n, n + 2 * net.ring + 2):
        if (m, place[1]) > (n, at) and net.step(place)[0] in words and line in net.lines(place, m):
            return place, m
    return None


def before(net, one, words, line):
    """The last instance of the agent ahead of this one with one of these words on the line."""
    (agent, at), n = one
    for place, m in instances(net, agent, n - 2 * net.ring - 2, n + 1)[::-1]:
        if (m, place[1]) < (n, at) and net.step(place)[0] in words and line in net.lines(place, m):
            return place, m
    return None


def fetching(net, agent):
    return {"plain": (), "through": ("read",), "back": ("read", "write")}[net.agents[agent].KIND]


def source_of(net, one, line, eager):
    drop = before(net, one, ("drop", "flush"), line)
    if drop is None or eager:
        return drop
    return behind(net, drop, fetching(net, one[0][0]), line)


def plain_spells(net, agent, line, eager, low, high):
    """The spells of an agent that begin in these rounds, found by one walk along its steps."""
    found = []
    if net.agents[agent].KIND != "back":
        return found
    first, seen = None, False
    for place, n in instances(net, agent, low - 2 * net.ring - 2, high + 2 * net.ring + 2):
        if line in net.lines(place, n):
            word = net.step(place)[0]
            if word in UPKEEP:
                if first is not None and low <= first[1] < high:
                    found.append((first, (place, n), source_of(net, first, line, eager)))
                first, seen = None, True
            if word == "write" and first is None and seen:
                first = (place, n)
    return found


def plain_endless(net, agent, line):
    words = [net.step(place)[0] for place, n in instances(net, agent, 0, net.ring) if line in net.lines(place, n)]
    return net.agents[agent].KIND == "back" and "write" in words and not any(word in UPKEEP for word in words)


def moved(one, rounds):
    return None if one is None else (one[0], one[1] + rounds)


class Plain:
    """The judgement of one net by one order."""

    def __init__(self, net, order, eager, whole):
        self.net, self.order, self.eager, self.whole = net, order, eager, whole

    def ahead(self, one, other):
        return one is not None and other is not None and self.order.ahead(*one, *other)

    def writes(self, address, words=("write", "put")):
        return [(place, n) for place in self.net.accesses() for n in range(-FAR, FAR)
                if self.net.step(place)[0] in words and address in self.net.touched(place, n)]

    def due(self, read, writes):
        for one in writes:
            if abs(one[1]) < FAR - 10 and self.ahead(one, read):
                if all(other == one or self.ahead(other, one) or self.ahead(read, other) for other in writes):
                    return one
        return None

    def fault(self, read, address):
        """(word, write, causes) for a wrong byte, causes a list of what may be the cause; None for a right one."""
        net, line, writes = self.net, address // self.net.line, self.writes(address)
        if not writes:
            return None
        w = self.due(read, writes)
        if w is None:
            return ("due", None, [None])
        a, b = net.agents[w[0][0]], net.agents[read[0][0]]
        kept = a is b and a.CACHED and net.step(w[0])[0] == "write" and net.step(read[0])[0] == "read"
        upkeep = behind(net, w, UPKEEP, line)
        if net.step(w[0])[0] == "put" or a.KIND != "back":
            sent = w
        else:
            sent = upkeep if upkeep is not None and net.step(upkeep[0])[0] in ("clean", "flush") else None
        if kept and a.KIND == "back" and upkeep is not None:
            if net.step(upkeep[0])[0] == "drop" and self.ahead(upkeep, read):
                return ("lost", w, [upkeep])
        if net.step(read[0])[0] == "get" or b.KIND == "plain":
            arrival = read
        else:
            arrival = source_of(net, read, line, self.eager)
        if not kept and not self.ahead(sent, arrival):
            return ("unsent", w, [(sent, arrival)])
        causes = self.spoilers(read, w, sent, line, address)
        return ("spoilt", w, causes) if causes else None

    def spoilers(self, read, w, sent, line, address):
        net, causes = self.net, []
        for d, agent in enumerate(net.agents):
            if agent.KIND != "back" or (d == w[0][0] and net.step(w[0])[0] != "put"):
                continue
            if self.whole:
                if plain_endless(net, d, line):
                    causes.append((agent.name, None, None, None))
                for spell in plain_spells(net, d, line, self.eager, 0, net.ring):
                    for rings in range(-FAR, FAR):
                        first, end, source = [moved(part, rings * net.ring) for part in spell]
                        if not (self.ahead(end, w) or self.ahead(read, first) or self.ahead(sent, source)):
                            causes.append((agent.name, first, end, source))
            else:
                own = [one for one in self.writes(address, ("write",)) if one[0][0] == d and self.ahead(one, w)]
                if own:
                    first = max(own, key=lambda one: (one[1], one[0]))
                    end = behind(net, first, UPKEEP, line)
                    if end is None or not self.ahead(end, w):
                        causes.append((agent.name, first, end, None))
        return causes

    def faults(self):
        """(place, round, address, word, write, causes) for each fault."""
        found = []
        for place in self.net.accesses():
            for n in range(self.net.ring):
                if self.net.step(place)[0] in ("read", "get"):
                    for address in self.net.touched(place, n):
                        fault = self.fault((place, n), address)
                        if fault is not None:
                            found.append((place, n, address, *fault))
        return found
