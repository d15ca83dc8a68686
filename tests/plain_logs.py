"""Logs once more, worked out plainly: each state of a line is unpacked into dicts, changed, and packed again."""

READS, ACCESSES = ("read", "get"), ("read", "write", "get", "put")


def instances(net, log):
    """(agent, place, round) for each row of a log that is of the form and can be done."""
    done, found = {agent.name: 0 for agent in net.agents}, []
    for name, _ in log:
        a = [agent.name for agent in net.agents].index(name)
        n, s = divmod(done[name], len(net.agents[a]))
        found.append((net.agents[a], (a, s), n))
        done[name] += 1
    return found


def lines_of_log(net, log):
    return sorted({line for _, place, n in instances(net, log) for line in net.lines(place, n)})


class PlainLine:
    """One line of a log."""

    def __init__(self, net, log, line, eager, whole):
        self.net, self.log, self.line, self.eager, self.whole = net, log, line, eager, whole
        self.rows = instances(net, log)
        self.at = range(line * net.line, (line + 1) * net.line)
        there = [agent.name for agent, place, n in self.rows if line in net.lines(place, n)]
        self.caches = [agent for agent in net.agents if agent.KIND != "plain" and agent.name in there]

    def first(self):
        return ((None,) * self.net.line, (None,) * len(self.caches))

    def unpack(self, state):
        memory, copies = state
        memory = dict(zip(self.at, memory))
        held = {}
        for agent, copy in zip(self.caches, copies):
            if copy is not None:
                held[agent.name] = {at: list(pair) for at, pair in zip(self.at, zip(*copy))}
        return memory, held

    def pack(self, memory, held):
        copies = []
        for agent in self.caches:
            copy = held.get(agent.name)
            copies.append(None if copy is None else tuple(tuple(copy[at][k] for at in self.at) for k in (0, 1)))
        return (tuple(memory[at] for at in self.at), tuple(copies))

    def give(self, memory, copy):
        dirty = any(mark for _, mark in copy.values())
        for at, (value, mark) in copy.items():
            if dirty and (mark or self.whole):
                memory[at] = value
            copy[at][1] = False

    def acted(self, state):
        """All states to which one action leads."""
        found = []
        for agent in self.caches:
            memory, held = self.unpack(state)
            copy = held.get(agent.name)
            if copy is None:
                if not self.eager:
                    continue
                held[agent.name] = {at: [memory[at], False] for at in self.at}
            elif any(mark for _, mark in copy.values()):
                self.give(memory, copy)
            else:
                del held[agent.name]
            found.append(self.pack(memory, held))
        return found

    def concerns(self, k):
        _, place, n = self.rows[k]
        return self.line in self.net.lines(place, n)

    def is_read(self, k):
        _, place, n = self.rows[k]
        return self.concerns(k) and self.net.step(place)[0] in READS

    def done(self, k, state):
        """(whether the row returns what the log tells, the state behind it)."""
        agent, place, n = self.rows[k]
        if not self.concerns(k):
            return True, state
        word = self.net.step(place)[0]
        touched = self.net.touched(place, n)
        near = [at for at in touched if at in self.at]
        memory, held = self.unpack(state)
        copy = held.get(agent.name)
        if word in ("clean", "flush") and copy is not None:
            self.give(memory, copy)
        if word in ("drop", "flush"):
            held.pop(agent.name, None)
        if copy is None and (word == "read" and agent.KIND != "plain" or word == "write" and agent.KIND == "back"):
            copy = held[agent.name] = {at: [memory[at], False] for at in self.at}
        true = True
        if word in READS:
            told = dict(zip(touched, self.log[k][1]))
            in_cache = word == "read" and agent.KIND != "plain"
            true = all(told[at] == (copy[at][0] if in_cache else memory[at]) for at in near)
        if word in ("write", "put"):
            value = (agent.name, place[1], n)
            for at in near:
                if word == "put" or agent.KIND != "back":
                    memory[at] = value
                if word == "write" and copy is not None:
                    copy[at] = [value, agent.KIND == "back"]
        return true, self.pack(memory, held)

    def closed(self, states):
        found, queue = set(states), list(states)
        while queue:
            for state in self.acted(queue.pop()):
                if state not in found:
                    found.add(state)
                    queue.append(state)
        return found

    def passed(self, k, states):
        behind = [self.done(k, state) for state in states]
        return {state for true, state in behind if true}


def states_ahead(net, log, line, eager, whole):
    """The sets of states of a line ahead of row 0, 1, .. and behind the last one; an empty one is the last."""
    plain = PlainLine(net, log, line, eager, whole)
    sets = [plain.closed([plain.first()])]
    for k in range(len(log)):
        sets.append(plain.closed(plain.passed(k, sets[-1])))
        if not sets[-1]:
            break
    return sets


def plain_explained(net, log, eager, whole, most):
    """("run",), ("none", k, line) or ("many",)."""
    lines = lines_of_log(net, log)
    sets = {line: states_ahead(net, log, line, eager, whole) for line in lines}
    for k in range(len(log)):
        if any(len(sets[line][k]) > most for line in lines):
            return ("many",)
        for line in lines:
            if not sets[line][k + 1]:
                return ("none", k, line)
    return ("run",)


def plain_holds_none(net, log, table, eager, whole):
    """The four conditions for a table of the right form."""
    line, sets = table
    plain = PlainLine(net, log, line, eager, whole)
    last = len(sets) - 1
    if plain.first() not in sets[0]:
        return False
    for j, states in enumerate(sets):
        for state in states:
            if any(one not in states for one in plain.acted(state)):
                return False
            true, behind = plain.done(j, state)
            if j < last and true and behind not in sets[j + 1]:
                return False
            if j == last and true:
                return False
    return plain.is_read(last)
