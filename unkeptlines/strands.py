"""One line of a log: its states, and what rows and caches do to them.

A state is a tuple (memory, copies): the values of the bytes of the line, and for each cache of the line None or the
tuple (values, marks) of its copy.
"""

from unkeptlines.steps import READ_WORDS, UPKEEP_WORDS, WRITE_WORDS


class Strand:
    """What a log tells of one line: the caches of the line, and the rows that concern it."""

    def __init__(self, net, log, instances, line, eager, whole):
        self.line = line
        self.size = net.line
        self._net = net
        self._eager = eager
        self._whole = whole
        self._unmarked = (False,) * net.line
        self.rows = [k for k, (place, n) in enumerate(instances) if line in net.lines(place, n)]
        self._numbers = _numbers_of(net, [instances[k] for k in self.rows])
        self.caches = [net.agents[number] for number in self._numbers]
        self._deeds = {k: self._deed(instances[k], log[k][1]) for k in self.rows}

    def first_state(self):
        """The state ahead of all rows and all that caches do by themselves."""
        return ((None,) * self.size, (None,) * len(self.caches))

    def is_read(self, k):
        """Whether row k reads bytes of the line."""
        return k in self._deeds and self._deeds[k][0] in ("look", "read")

    def behind(self, k, state):
        """The state behind row k; None if the row returns other values there than the log tells."""
        if k not in self._deeds:
            return state
        word, cache, at, worth = self._deeds[k]
        memory, copies = state
        if word == "look":
            return state if _picked(memory, at) == worth else None
        if word == "put":
            return (_stored(memory, at, worth), copies)
        copy = copies[cache]
        if word in UPKEEP_WORDS:
            memory, copy = self._kept_up(word, memory, copy)
        elif word == "through":
            memory = _stored(memory, at, worth)
            copy = None if copy is None else (_stored(copy[0], at, worth), copy[1])
        else:
            values, marks = (memory, self._unmarked) if copy is None else copy
            if word == "read" and _picked(values, at) != worth:
                return None
            copy = (values, marks) if word == "read" else (_stored(values, at, worth), _stored(marks, at, True))
        return (memory, _with(copies, cache, copy))

    def reached(self, state):
        """What one cache can do by itself in a state: tuples (word, number of the cache, state behind it)."""
        memory, copies = state
        found = []
        for cache, copy in enumerate(copies):
            if copy is None:
                if self._eager:
                    taken = (memory, self._unmarked)
                    found.append(("fetch", cache, (memory, _with(copies, cache, taken))))
            elif True in copy[1]:
                given, kept = self._given(memory, copy)
                found.append(("write_back", cache, (given, _with(copies, cache, kept))))
            else:
                found.append(("discard", cache, (memory, _with(copies, cache, None))))
        return found

    def _deed(self, instance, got):
        """What a row does to the line: (word, number of the cache, bytes of the line, values)."""
        place, n = instance
        agent = self._net.agents[place[0]]
        word = self._net.step(place)[0]
        start = self.line * self.size
        addresses = self._net.touched(place, n)
        near = [k for k, address in enumerate(addresses) if start <= address < start + self.size]
        at = [addresses[k] - start for k in near]
        worth = (agent.name, place[1], n)
        if word in READ_WORDS:
            worth = tuple([got[k] for k in near])
            word = "read" if word == "read" and agent.CACHED else "look"
        elif word in WRITE_WORDS:
            word = "put" if word == "put" or not agent.CACHED else ("write" if agent.KIND == "back" else "through")
        cache = self._numbers.index(place[0]) if agent.CACHED else None
        return (word, cache, at, worth)

    def _kept_up(self, word, memory, copy):
        if copy is not None and word != "drop" and True in copy[1]:
            memory, copy = self._given(memory, copy)
        return (memory, copy if word == "clean" else None)

    def _given(self, memory, copy):
        """The memory and the copy when the line is written back."""
        values, marks = copy
        if self._whole:
            return (values, (values, self._unmarked))
        given = [value if mark else old for value, mark, old in zip(values, marks, memory)]
        return (tuple(given), (values, self._unmarked))


def _numbers_of(net, instances):
    """The numbers of the agents with a cache that do some instances, ascending."""
    numbers = sorted(set([int(place[0]) for place, _ in instances]))
    return [number for number in numbers if net.agents[number].CACHED]


def _picked(row, at):
    return tuple([row[k] for k in at])


def _stored(row, at, worth):
    return tuple([worth if k in at else old for k, old in enumerate(row)])


def _with(row, at, worth):
    return (*row[:at], worth, *row[at + 1:])
