"""Whether a read can be wrong, found by trying everything that steps and caches can do on one line after another.

A value is replaced by whether it is the last one of its byte: nothing else matters for the question. So a net whose
signals stay bounded has finitely many states.
"""

MOST_TOKENS = 8


class TooLarge(Exception):
    """There are more states than one wants to look at."""


class Line:
    """One line of a net, and the agents that work on it."""

    def __init__(self, net, line, eager, whole, most):
        self.net, self.line, self.eager, self.whole, self.most = net, line, eager, whole, most
        self.start = line * net.line
        self.signals = [signal.name for signal in net.signals]

    def first_state(self):
        places = tuple((0, 0) for _ in self.net.agents)
        tokens = tuple(signal.tokens for signal in self.net.signals)
        return places, tokens, (True,) * self.net.line, (None,) * len(self.net.agents)

    def has_wrong(self):
        """Whether some run of the net has a wrong read on this line."""
        state = self.first_state()
        seen, queue = {state}, [state]
        while queue:
            for wrong, following in self.following(queue.pop()):
                if wrong:
                    return True
                if following not in seen:
                    if len(seen) >= self.most or max(following[1], default=0) > MOST_TOKENS:
                        raise TooLarge()
                    seen.add(following)
                    queue.append(following)
        return False

    def following(self, state):
        places, tokens, memory, copies = state
        for a, copy in enumerate(copies):
            if self.net.agents[a].CACHED:
                yield from self.acted(state, a, copy)
            yield from self.stepped(state, a)

    def acted(self, state, a, copy):
        places, tokens, memory, copies = state
        if copy is None and self.eager:
            taken = tuple((fresh, False) for fresh in memory)
            yield False, (places, tokens, memory, self.put_in(copies, a, taken))
        elif copy is not None and not any(mark for _, mark in copy):
            yield False, (places, tokens, memory, self.put_in(copies, a, None))
        elif copy is not None:
            yield False, (places, tokens, self.given(memory, copy), self.put_in(copies, a, self.cleaned(copy)))

    def put_in(self, row, k, value):
        return (*row[:k], value, *row[k + 1:])

    def given(self, memory, copy):
        return tuple(fresh if mark or self.whole else old for old, (fresh, mark) in zip(memory, copy))

    def cleaned(self, copy):
        return tuple((fresh, False) for fresh, _ in copy)

    def stepped(self, state, a):
        places, tokens, memory, copies = state
        s, n = places[a]
        agent = self.net.agents[a]
        after = (s + 1, n) if s + 1 < len(agent.steps) else (0, (n + 1) % self.net.ring)
        places = self.put_in(places, a, after)
        word, name = agent.steps[s][:2]
        if word in ("post", "wait"):
            k = self.signals.index(name)
            many = tokens[k] + (1 if word == "post" else -1)
            if many >= 0:
                yield False, (places, self.put_in(tokens, k, many), memory, copies)
            return
        bytes_here = [address - self.start for address in self.net.touched((a, s), n)
                      if address // self.net.line == self.line]
        if not bytes_here:
            yield False, (places, tokens, memory, copies)
            return
        wrong, memory, copies = self.done(word, a, bytes_here, memory, copies)
        yield wrong, (places, tokens, memory, copies)

    def done(self, word, a, at, memory, copies):
        kind, copy = self.net.agents[a].KIND, copies[a]
        if word in ("clean", "flush") and copy is not None and any(mark for _, mark in copy):
            memory, copy = self.given(memory, copy), self.cleaned(copy)
        if word in ("drop", "flush"):
            copy = None
        if kind != "plain" and (word == "read" or (word == "write" and kind == "back")) and copy is None:
            copy = tuple((fresh, False) for fresh in memory)
        copies = self.put_in(copies, a, copy)
        if word == "get" or (word == "read" and kind == "plain"):
            return any(not memory[k] for k in at), memory, copies
        if word == "read":
            return any(not copy[k][0] for k in at), memory, copies
        if word in ("write", "put"):
            past = word == "put" or kind == "plain"
            memory = tuple(fresh if k not in at else past or kind == "through" for k, fresh in enumerate(memory))
            copies = tuple(None if one is None else tuple(
                pair if k not in at else (b == a and not past, pair[1] or (b == a and not past and kind == "back"))
                for k, pair in enumerate(one)) for b, one in enumerate(copies))
        return False, memory, copies


def can_be_wrong(net, eager, whole, most=60000):
    """Whether some run of the net has a wrong read."""
    lines = sorted({line for place in net.places() for n in range(net.ring) for line in net.lines(place, n)})
    return any(Line(net, line, eager, whole, most).has_wrong() for line in lines)
