"""Nets: agents that share variables and signals."""

from unkeptlines.agents import Agent
from unkeptlines.errors import NoName, NoNet, NoStep
from unkeptlines.kinds import is_integer, is_within
from unkeptlines.signals import Signal
from unkeptlines.steps import concerns_signal, is_access
from unkeptlines.variables import Variable, lines_of

MOST_AGENTS = 4
MOST_VARIABLES = 6
MOST_SIGNALS = 6
LONGEST_RING = 4


class Net:
    """A net of variables, signals and agents, with a line and a ring."""

    LINES = (1, 2, 4, 8, 16)

    def __init__(self, *parts, line=8, ring=1):
        if not is_integer(line) or line not in self.LINES:
            raise NoNet("line", None)
        if not is_within(ring, 1, LONGEST_RING):
            raise NoNet("ring", None)
        _check_parts(parts, ring)
        self.line = line
        self.ring = ring
        self.variables = tuple([part for part in parts if isinstance(part, Variable)])
        self.signals = tuple([part for part in parts if isinstance(part, Signal)])
        self.agents = tuple([part for part in parts if isinstance(part, Agent)])
        self._named = {part.name: part for part in parts}

    @classmethod
    def made(cls, parts, *, line=8, ring=1):
        """The net with the parts in a tuple or list."""
        return cls(*parts, line=line, ring=ring)

    def __add__(self, other):
        parts = (*self.variables, *self.signals, *self.agents, other)
        return Net(*parts, line=self.line, ring=self.ring)

    def __contains__(self, x):
        return isinstance(x, str) and x in self._named

    def __getitem__(self, at):
        if at not in self:
            raise NoName(at)
        return self._named[at]

    def __iter__(self):
        raise TypeError("a net is not iterated over: take its agents, variables or signals")

    def __len__(self):
        return len(self.agents)

    def __eq__(self, other):
        return (isinstance(other, Net) and self.line == other.line and self.ring == other.ring
                and self.variables == other.variables and self.signals == other.signals
                and self.agents == other.agents)

    def with_line(self, line):
        """The net with another line."""
        parts = (*self.variables, *self.signals, *self.agents)
        return Net(*parts, line=line, ring=self.ring)

    def with_agents(self, *agents):
        """The net with other agents instead of its own."""
        parts = (*self.variables, *self.signals, *agents)
        return Net(*parts, line=self.line, ring=self.ring)

    def is_place(self, value):
        """True for the place of a step; value is any value."""
        if not isinstance(value, tuple) or len(value) != 2:
            return False
        agent, at = value
        if not is_within(agent, 0, len(self.agents) - 1):
            return False
        return is_within(at, 0, len(self.agents[agent].steps) - 1)

    def step(self, place):
        """The step at this place, any value."""
        if not self.is_place(place):
            raise NoStep(place)
        agent, at = place
        return self.agents[agent].steps[at]

    def places(self):
        """All places, ascending."""
        for a, agent in enumerate(self.agents):
            for s in range(len(agent.steps)):
                yield (a, s)

    def accesses(self):
        """The places of accesses, ascending."""
        for place in self.places():
            if is_access(self.step(place)):
                yield place

    def touched(self, place, n):
        """The addresses that the step concerns in round n, ascending."""
        step = self.step(place)
        if concerns_signal(step):
            return ()
        _, name, shift, first, last = step
        slots = self._named[name].at
        address = slots[(n + shift) % len(slots)]
        return tuple(range(address + first, address + last + 1))

    def lines(self, place, n):
        """The lines that the step concerns in round n, ascending."""
        return lines_of(self.touched(place, n), self.line)


def _check_parts(parts, ring):
    """Raises NoNet for the first of the clauses 2 to 8 of the document that these parts break."""
    for k, part in enumerate(parts):
        if not isinstance(part, (Variable, Signal, Agent)):
            raise NoNet("part", k)
    _check_many(parts)
    _check_names(parts)
    for k, part in enumerate(parts):
        if isinstance(part, Variable) and len(part.at) not in (1, ring):
            raise NoNet("slots", k)
    _check_bytes(parts)
    agents = [part for part in parts if isinstance(part, Agent)]
    _check_steps(parts, agents)
    _check_signals(parts, agents)


def _check_many(parts):
    agents = 0
    variables = 0
    signals = 0
    for k, part in enumerate(parts):
        if isinstance(part, Agent):
            agents += 1
        elif isinstance(part, Variable):
            variables += 1
        else:
            signals += 1
        if agents > MOST_AGENTS or variables > MOST_VARIABLES or signals > MOST_SIGNALS:
            raise NoNet("many", k)


def _check_names(parts):
    names = [part.name for part in parts]
    for k, name in enumerate(names):
        if name in names[:k]:
            raise NoNet("name", k)


def _check_bytes(parts):
    taken = {}
    for k, part in enumerate(parts):
        if isinstance(part, Variable):
            own = [address + more for address in part.at for more in range(part.size)]
            if any([address in taken for address in own]):
                raise NoNet("bytes", k)
            for address in own:
                taken[address] = True


def _check_steps(parts, agents):
    sizes = {part.name: part.size for part in parts if isinstance(part, Variable)}
    signals = [part.name for part in parts if isinstance(part, Signal)]
    for a, agent in enumerate(agents):
        for s, step in enumerate(agent.steps):
            name = step[1]
            if concerns_signal(step):
                fits = name in signals
            else:
                fits = name in sizes and step[4] < sizes[name]
            if not fits:
                raise NoNet("step", (a, s))


def _check_signals(parts, agents):
    steps = [step for agent in agents for step in agent.steps]
    for k, part in enumerate(parts):
        if isinstance(part, Signal):
            posts = steps.count(("post", part.name))
            waits = steps.count(("wait", part.name))
            if posts != 1 or waits != 1:
                raise NoNet("signal", k)
