"""Runs in which a read gets another value than the one that was written last."""

from unkeptlines.clashes import order_without_clash
from unkeptlines.handing import sent_at
from unkeptlines.machine import Machine
from unkeptlines.upkeep import first_access, nearest_behind
from unkeptlines.views import View, shifted
from unkeptlines.walks import Walk


def wrong_run(net, fault, *, eager=True, whole=True):
    """Rows that play does, the last of them the read of the fault, in which its byte is wrong."""
    order = order_without_clash(net)
    view = View(net, order, eager)
    run = Run(view, order, fault.address // net.line, whole)
    rounds = _rounds_later(view, fault, run.line)
    read = shifted((fault.place, fault.round), rounds)
    if fault.word == "unsent":
        sent, arrival = fault.cause
        # Any other read looks into the memory, where the value never comes or has not come yet.
        if sent is not None and view.word_of(read) == "read" and view.agent_of(read).CACHED:
            run.take_over(fault.place[0], shifted(arrival, rounds))
    if fault.word == "spoilt":
        _spoil(view, run, fault, rounds)
    run.reach(read)
    return tuple(run.rows)


class Run:
    """A run that is made row by row; its caches act on one line alone."""

    def __init__(self, view, order, line, whole):
        self.line = line
        self.whole = whole
        self.rows = []
        self._net = view.net
        self._eager = view.eager
        self._walk = Walk(view.net, order)
        self._machine = Machine(view.net, eager=view.eager, whole=whole)

    def reach(self, instance):
        """Does an instance, and all that is ahead of it."""
        place, n = instance
        for name in self._walk.through(place, n):
            self._machine.step(name)
            self.rows.append(("step", name))

    def take_over(self, number, source):
        """Lets the cache of an agent take the line over at its source; without one, at the beginning."""
        if source is None and not self._eager:
            place, n = self._before_all(number)
            source = first_access(self._net, place, n, self.line)
        if source is not None:
            self.reach(source)
        if self._eager:
            self._fetch(self._net.agents[number].name)

    def first_write(self, number):
        """The first step write of the line by an agent."""
        place, n = self._before_all(number)
        return nearest_behind(self._net, place, n, self.line, ("write",))

    def spoil(self, name):
        """Lets one cache write the line back behind all others; afterwards no other one has it."""
        others = [agent.name for agent in self._net.agents if agent.name != name]
        for other in others:
            if self._machine.changed(other, self.line) != ():
                self._write_back(other)
        self._write_back(name)
        for other in others:
            if self._machine.held(other, self.line) is not None:
                self._discard(other)

    def _before_all(self, number):
        """The place and the round of the step that would be directly ahead of the first one of an agent."""
        return (number, len(self._net.agents[number].steps) - 1), -1

    def _fetch(self, name):
        self._machine.fetch(name, self.line)
        self.rows.append(("fetch", name, self.line))

    def _write_back(self, name):
        self._machine.write_back(name, self.line)
        self.rows.append(("write_back", name, self.line))

    def _discard(self, name):
        self._machine.discard(name, self.line)
        self.rows.append(("discard", name, self.line))


def _spoil(view, run, fault, rounds):
    """The part of the run up to the moment at which the old value is written over the new one."""
    name, first, _, source = fault.cause
    write = shifted(fault.write, rounds)
    number = [agent.name for agent in view.net.agents].index(name)
    if run.whole and sent_at(view, write, run.line) is not None:
        run.take_over(number, shifted(source, rounds))
    run.reach(write)
    run.reach(run.first_write(number) if first is None else shifted(first, rounds))
    run.spoil(name)


def _rounds_later(view, fault, line):
    """How much later than in the fault the run has its read: a number of rings.

    It is so late that nothing the fault tells of is within the first rings of the run: these are left for what
    the agents do for the first time.
    """
    parts = [fault.write, sent_at(view, fault.write, line)]
    if fault.word == "unsent":
        parts.extend(fault.cause)
    if fault.word == "spoilt":
        parts.extend([fault.cause[1], fault.cause[3]])
    ring = view.net.ring
    earliest = min([int(part[1]) for part in parts if part is not None])
    return (2 - earliest // ring) * ring
