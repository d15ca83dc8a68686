"""The machine once more, as plainly as can be: every byte by itself, in dicts with long keys."""

import random


class PlainMachine:
    """What [20] to [23] say, for calls that are not refused; refused ones are told by refusal and why_not."""

    def __init__(self, net, eager, whole):
        self.net, self.eager, self.whole = net, eager, whole
        self.done = {agent.name: 0 for agent in net.agents}
        self.tokens = {signal.name: signal.tokens for signal in net.signals}
        self.memory = [None] * 1024
        self.last = [None] * 1024
        self.copy = {}  # (name, address): value
        self.mark = set()  # (name, address)
        self.acts = 0
        self.wrong = []
        self.agents = {agent.name: agent for agent in net.agents}

    def bytes_of(self, line):
        return range(line * self.net.line, (line + 1) * self.net.line)

    def holds(self, name, line):
        return (name, line * self.net.line) in self.copy

    def held(self, name, line):
        return tuple(self.copy[name, at] for at in self.bytes_of(line)) if self.holds(name, line) else None

    def changed(self, name, line):
        return tuple(at for at in self.bytes_of(line) if (name, at) in self.mark)

    def next_of(self, name):
        return (self.done[name] % len(self.agents[name]), self.done[name] // len(self.agents[name]))

    def next_step(self, name):
        return self.agents[name].steps[self.next_of(name)[0]]

    def can(self, name):
        step = self.next_step(name)
        return step[0] != "wait" or self.tokens[step[1]] > 0

    def take(self, name, line):
        for at in self.bytes_of(line):
            self.copy[name, at] = self.memory[at]

    def give(self, name, line):
        for at in self.bytes_of(line):
            if self.whole or (name, at) in self.mark:
                self.memory[at] = self.copy[name, at]
            self.mark.discard((name, at))

    def lose(self, name, line):
        for at in self.bytes_of(line):
            self.copy.pop((name, at), None)
            self.mark.discard((name, at))

    def why_not(self, word, name, line, silent=False):
        """The reason against a deed of a cache, or None."""
        if silent:
            return "quiet"
        if self.agents[name].KIND == "plain":
            return "plain"
        if word == "fetch" and not self.eager:
            return "calm"
        if type(line) is not int or line < 0 or line >= 1024 / self.net.line:
            return "line"
        if word == "fetch":
            return "there" if self.holds(name, line) else None
        if not self.holds(name, line):
            return "absent"
        if word == "write_back":
            return None if self.changed(name, line) else "clean"
        return "changed" if self.changed(name, line) else None

    def deed(self, word, name, line):
        {"fetch": self.take, "write_back": self.give, "discard": self.lose}[word](name, line)
        self.acts += 1

    def step(self, name):
        s, n = self.next_of(name)
        step, kind = self.next_step(name), self.agents[name].KIND
        self.done[name] += 1
        if step[0] in ("post", "wait"):
            self.tokens[step[1]] += 1 if step[0] == "post" else -1
            return None
        word, variable, shift, first, last = step
        slots = self.net[variable].at
        touched = [slots[(n + shift) % len(slots)] + k for k in range(first, last + 1)]
        lines = sorted({at // self.net.line for at in touched})
        if word in ("clean", "drop", "flush"):
            for line in lines:
                if word != "drop" and self.changed(name, line):
                    self.give(name, line)
                if word != "clean":
                    self.lose(name, line)
            return None
        cached = kind != "plain" and word in ("read", "write")
        if cached and (word == "read" or kind == "back"):
            for line in lines:
                if not self.holds(name, line):
                    self.take(name, line)
        if word in ("read", "get"):
            values = tuple(self.copy[name, at] if cached else self.memory[at] for at in touched)
            self.wrong += [(name, s, n, at) for at, value in zip(touched, values) if value != self.last[at]]
            return values
        for at in touched:
            self.last[at] = (name, s, n)
            if cached and (name, at) in self.copy:
                self.copy[name, at] = (name, s, n)
                if kind == "back":
                    self.mark.add((name, at))
            if not cached or kind == "through":
                self.memory[at] = (name, s, n)
        return None


def lines_near(net):
    """The lines that the steps of a net concern, and one beside them."""
    lines = {line for place in net.places() for n in range(net.ring) for line in net.lines(place, n)}
    return sorted(lines | {max(lines, default=0) + 1})


def drawn_rows(net, seed, many, eager, whole):
    """Rows that can be done, drawn step by step with the plain machine; and that machine."""
    chance = random.Random(seed)
    plain = PlainMachine(net, eager, whole)
    names, lines, rows = [agent.name for agent in net.agents], lines_near(net), []
    for _ in range(many):
        name = chance.choice(names)
        if chance.random() < 0.6:
            if plain.can(name):
                rows.append(("step", name))
                plain.step(name)
            continue
        word, line = chance.choice(("fetch", "write_back", "write_back", "discard")), chance.choice(lines)
        if plain.why_not(word, name, line) is None:
            rows.append((word, name, line))
            plain.deed(word, name, line)
    return tuple(rows), plain
