"""The machine: memory, caches, signals and agents at work."""

from unkeptlines.caches import Cache
from unkeptlines.errors import Blocked, NoDeed, NoName
from unkeptlines.kinds import is_within
from unkeptlines.steps import READ_WORDS, SIGNAL_WORDS, UPKEEP_WORDS
from unkeptlines.variables import ADDRESSES, lines_of


class Quiet:
    """A block in which the caches of a machine do nothing by themselves."""

    def __init__(self, machine):
        self._machine = machine
        self._before = False

    def __enter__(self):
        machine = self._machine
        self._before = machine.silent
        machine.silent = True
        return machine

    def __exit__(self, kind, value, trace):
        self._machine.silent = self._before


class Machine:
    """A net at work, from its first step on."""

    def __init__(self, net, *, eager=True, whole=True):
        self._net = net
        self._eager = eager
        self._whole = whole
        self._numbers = {agent.name: a for a, agent in enumerate(net.agents)}
        self._places = [(0, 0) for _ in net.agents]
        self._tokens = {signal.name: signal.tokens for signal in net.signals}
        self._memory = {}
        self._latest = {}
        self._caches = [Cache(net.line) for _ in net.agents]
        self._acts = 0
        self._wrong = []
        self.silent = False

    def step(self, name):
        """Does the next step of an agent; the values that it reads, or None."""
        number = self._number(name)
        if not self._is_free(number):
            raise Blocked(name)
        agent = self._net.agents[number]
        at, n = self._places[number]
        self._places[number] = (at + 1, n) if at + 1 < len(agent.steps) else (0, n + 1)
        word, about = agent.steps[at][:2]
        if word in SIGNAL_WORDS:
            self._tokens[about] += 1 if word == "post" else -1
            return None
        addresses = self._net.touched((number, at), n)
        if word in UPKEEP_WORDS:
            self._keep_up(word, number, addresses)
            return None
        if word in READ_WORDS:
            values = self._read(word, number, addresses)
            self._compare((agent.name, at, n), addresses, values)
            return values
        self._write(word, number, addresses, (agent.name, at, n))
        return None

    def fetch(self, name, line):
        """A cache fetches a line by itself."""
        number = self._number(name)
        self._check_deed(number, not self._eager, line)
        if self._caches[number].held(line) is not None:
            raise NoDeed("there")
        self._caches[number].take(line, self._memory)
        self._acts += 1

    def write_back(self, name, line):
        """A cache writes a line with changed bytes back by itself."""
        number = self._number(name)
        self._check_deed(number, False, line)
        if self._caches[number].held(line) is None:
            raise NoDeed("absent")
        if self._caches[number].changed(line) == ():
            raise NoDeed("clean")
        self._caches[number].give(line, self._memory, self._whole)
        self._acts += 1

    def discard(self, name, line):
        """A cache removes a line without changed bytes by itself."""
        number = self._number(name)
        self._check_deed(number, False, line)
        if self._caches[number].held(line) is None:
            raise NoDeed("absent")
        if self._caches[number].changed(line) != ():
            raise NoDeed("changed")
        self._caches[number].lose(line)
        self._acts += 1

    def memory(self, address):
        """The value of a byte in the memory."""
        return self._memory.get(address)

    def last(self, address):
        """The value of the last write of a byte, None if there was none."""
        return self._latest.get(address)

    def held(self, name, line):
        """The values of a copy; None if there is none."""
        number = self._number(name)
        return self._caches[number].held(line) if self._is_line(line) else None

    def changed(self, name, line):
        """The addresses of the changed bytes of a copy, ascending; () if there is no copy."""
        number = self._number(name)
        return self._caches[number].changed(line) if self._is_line(line) else ()

    def next_of(self, name):
        """The step and the round that are next for an agent."""
        return self._places[self._number(name)]

    def can(self, name):
        """Whether the next step of an agent can be done."""
        return self._is_free(self._number(name))

    def left(self, signal):
        """The tokens that a signal has now."""
        if not isinstance(signal, str) or signal not in self._tokens:
            raise NoName(signal)
        return self._tokens[signal]

    @property
    def acts(self):
        """How often caches acted by themselves."""
        return self._acts

    @property
    def wrong(self):
        """The bytes that were read with another value than the last one, in the order of the reads."""
        return tuple(self._wrong)

    def twin(self):
        """A machine in the same state, not inside of quiet."""
        other = Machine(self._net, eager=self._eager, whole=self._whole)
        other._places = list(self._places)
        other._tokens = dict(self._tokens)
        other._memory = dict(self._memory)
        other._latest = dict(self._latest)
        other._caches = [cache.twin() for cache in self._caches]
        other._acts = self._acts
        other._wrong = list(self._wrong)
        return other

    def quiet(self):
        """A block, to be entered by with, in which caches do nothing by themselves."""
        return Quiet(self)

    def _number(self, name):
        """The number of the agent with this name, any value."""
        if not isinstance(name, str) or name not in self._numbers:
            raise NoName(name)
        return self._numbers[name]

    def _is_free(self, number):
        agent = self._net.agents[number]
        word, about = agent.steps[self._places[number][0]][:2]
        return word != "wait" or self._tokens[about] > 0

    def _is_line(self, value):
        return is_within(value, 0, ADDRESSES // self._net.line - 1)

    def _check_deed(self, number, is_calm, line):
        """The reasons against a deed of a cache that are the same whatever it holds."""
        if self.silent:
            raise NoDeed("quiet")
        if not self._net.agents[number].CACHED:
            raise NoDeed("plain")
        if is_calm:
            raise NoDeed("calm")
        if not self._is_line(line):
            raise NoDeed("line")

    def _read(self, word, number, addresses):
        if word == "get" or not self._net.agents[number].CACHED:
            return tuple([self._memory.get(address) for address in addresses])
        cache = self._caches[number]
        cache.take_missing(lines_of(addresses, self._net.line), self._memory)
        return tuple([cache.value_at(address) for address in addresses])

    def _compare(self, instance, addresses, values):
        """Notes the bytes that were read with another value than the last one."""
        for address, value in zip(addresses, values):
            if value != self._latest.get(address):
                self._wrong.append((*instance, address))

    def _write(self, word, number, addresses, value):
        kind = self._net.agents[number].KIND
        cache = self._caches[number]
        if word == "write" and kind == "back":
            cache.take_missing(lines_of(addresses, self._net.line), self._memory)
            for address in addresses:
                cache.store(address, value, True)
        else:
            for address in addresses:
                self._memory[address] = value
                # A put leaves the cache as it is, and a plain agent has nothing in it.
                if word == "write" and cache.held(address // self._net.line) is not None:
                    cache.store(address, value, False)
        for address in addresses:
            self._latest[address] = value

    def _keep_up(self, word, number, addresses):
        cache = self._caches[number]
        for line in lines_of(addresses, self._net.line):
            if word != "drop" and cache.changed(line) != ():
                cache.give(line, self._memory, self._whole)
            if word != "clean":
                cache.lose(line)


def quietly(machine, deed):
    """What deed(machine) returns, called inside of quiet."""
    with machine.quiet() as same:
        return deed(same)
