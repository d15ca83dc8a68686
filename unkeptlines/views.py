"""What the judgement asks again and again of a net and of an order of it."""

from unkeptlines.spells import endless, spells
from unkeptlines.upkeep import last_source, next_upkeep
from unkeptlines.writes import groups_of, writes_by_address


class View:
    """A net with an order. An instance is a tuple (place, round), or None if there is no such instance."""

    def __init__(self, net, order, eager):
        self.net = net
        self.eager = eager
        self.writes = writes_by_address(net)
        self.groups = groups_of(self.writes)
        self.told = {}
        self._order = order
        self._rounds = {}
        self._upkeeps = {}
        self._sources = {}
        self._spells = {}

    def word_of(self, instance):
        """The word of the step."""
        return self.net.step(instance[0])[0]

    def agent_of(self, instance):
        """The agent of the step."""
        return self.net.agents[instance[0][0]]

    def least(self, one, other):
        """The rounds of the lag from one place to the other, or None."""
        key = (one, other)
        if key not in self._rounds:
            self._rounds[key] = self._order.lag(one, other).rounds
        return self._rounds[key]

    def is_ahead(self, one, other):
        """Whether one instance is ahead of the other. What there is not is ahead of nothing, and nothing of it."""
        if one is None or other is None:
            return False
        least = self.least(one[0], other[0])
        return least is not None and other[1] - one[1] >= least

    def upkeep_behind(self, instance, line):
        """The next upkeep of the line."""
        place, n = instance
        rest = n % self.net.ring
        key = (place, rest, line)
        if key not in self._upkeeps:
            self._upkeeps[key] = next_upkeep(self.net, place, rest, line)
        return shifted(self._upkeeps[key], n - rest)

    def source_ahead(self, instance, line):
        """Where the copy that the instance finds was taken, as last_source tells."""
        place, n = instance
        rest = n % self.net.ring
        key = (place, rest, line)
        if key not in self._sources:
            self._sources[key] = last_source(self.net, place, rest, line, self.eager)
        return shifted(self._sources[key], n - rest)

    def spells_of(self, number, line):
        """The spells of an agent on a line; None stands for an endless one."""
        key = (number, line)
        if key not in self._spells:
            name = self.net.agents[number].name
            found = list(spells(self.net, name, line, eager=self.eager))
            self._spells[key] = [None] if endless(self.net, name, line) else found
        return list(self._spells[key])


def shifted(instance, rounds):
    """The instance so many rounds later."""
    return None if instance is None else (instance[0], instance[1] + rounds)
