"""The form of logs, and the steps that they tell of."""

from unkeptlines.errors import Blocked, NoName, NoRun
from unkeptlines.kinds import is_integer
from unkeptlines.machine import Machine
from unkeptlines.steps import READ_WORDS

LONGEST_LOG = 40


def instances_of(net, log):
    """The step of each row of a log, any value, as (place, round); raises NoRun for the first row that is none."""
    if not isinstance(log, tuple) or len(log) > LONGEST_LOG:
        raise NoRun(0)
    names = [agent.name for agent in net.agents]
    # Only the steps count here: so the caches may be those of any machine.
    machine = Machine(net)
    instances = []
    for k, row in enumerate(log):
        if not isinstance(row, tuple) or len(row) != 2:
            raise NoRun(k)
        name, got = row
        try:
            at, n = machine.next_of(name)
            machine.step(name)
        except (NoName, Blocked):
            raise NoRun(k) from None
        place = (names.index(name), at)
        if not _is_got(net, place, n, got):
            raise NoRun(k)
        instances.append((place, n))
    return instances


def _is_got(net, place, n, got):
    """Whether a step can return got, any value, whatever was written."""
    if net.step(place)[0] not in READ_WORDS:
        return got is None
    if not isinstance(got, tuple) or len(got) != len(net.touched(place, n)):
        return False
    return all([is_worth(value) for value in got])


def is_worth(value):
    """True for what a byte can have as its value, perhaps one that nobody writes."""
    if value is None:
        return True
    if not isinstance(value, tuple) or len(value) != 3:
        return False
    name, at, n = value
    return isinstance(name, str) and is_integer(at) and at >= 0 and is_integer(n) and n >= 0


def lines_of_log(net, instances):
    """The lines that the steps of a log concern, ascending."""
    return tuple(sorted(set([int(line) for place, n in instances for line in net.lines(place, n)])))
