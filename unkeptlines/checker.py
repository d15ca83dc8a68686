"""The checker of findings: it plays runs and adds up numbers, but searches for nothing."""

from unkeptlines.errors import Blocked, NoName, NoRun, NoWay
from unkeptlines.findings import Clash, Right, Still, Wrong
from unkeptlines.machine import Machine
from unkeptlines.proofs import is_enough
from unkeptlines.runs import DEEDS, MOST_ROWS, play
from unkeptlines.steps import ACCESS_WORDS, WRITE_WORDS
from unkeptlines.ways import neighbour_table, sum_of

MOST_DEEDS = 2


def holds(net, finding):
    """Whether a finding, whose fields are any values, is true of the net."""
    if isinstance(finding, Still):
        return _is_ring(net, finding.ring)
    if isinstance(finding, Clash):
        return _is_clash(net, finding)
    if isinstance(finding, Wrong):
        return _is_wrong(net, finding)
    return isinstance(finding, Right) and _is_right(net, finding)


def _is_ring(net, ring):
    try:
        total = sum_of(net, ring)
    except NoWay:
        return False
    return total == 0 and ring[0] == ring[-1]


def _is_clash(net, finding):
    one, other = finding.one, finding.other
    if not net.is_place(one) or not net.is_place(other) or one[0] == other[0]:
        return False
    machine = _stepped(net, finding.run)
    if machine is None:
        return False
    n = _round_of_next(net, machine, one)
    m = _round_of_next(net, machine, other)
    return n is not None and m is not None and _meet(net, one, n, other, m)


def _stepped(net, run):
    """A machine that has done the steps of a run of names; None if run, any value, is none."""
    if not isinstance(run, tuple) or len(run) > MOST_ROWS:
        return None
    machine = Machine(net)
    for name in run:
        try:
            machine.step(name)
        except (NoName, Blocked):
            return None
    return machine


def _round_of_next(net, machine, place):
    """The round in which the step of this place is the next one of its agent; None if another step is."""
    at, n = machine.next_of(net.agents[place[0]].name)
    return n if at == place[1] else None


def _meet(net, one, n, other, m):
    """Whether two instances are accesses of a common byte, at least one of them a write. An access never waits."""
    words = (net.step(one)[0], net.step(other)[0])
    if words[0] not in ACCESS_WORDS or words[1] not in ACCESS_WORDS:
        return False
    if words[0] not in WRITE_WORDS and words[1] not in WRITE_WORDS:
        return False
    there = net.touched(other, m)
    return any([address in there for address in net.touched(one, n)])


def _is_wrong(net, finding):
    rows, eager, whole = finding.rows, finding.eager, finding.whole
    if not isinstance(eager, bool) or not isinstance(whole, bool):
        return False
    if not isinstance(rows, tuple) or rows == ():
        return False
    try:
        machine = play(net, rows, eager=eager, whole=whole)
    except NoRun:
        return False
    # Only a read or a get makes more bytes wrong: so the last row is one of these.
    before = play(net, rows[:-1], eager=eager, whole=whole)
    return len(machine.wrong) > len(before.wrong) and _are_few_deeds(rows)


def _are_few_deeds(rows):
    """Whether each cache acts by itself at most twice in a run, and all of them on one line."""
    deeds = [row for row in rows if row[0] in DEEDS]
    names = [row[1] for row in deeds]
    lines = [row[2] for row in deeds]
    return all([names.count(name) <= MOST_DEEDS for name in names]) and all([line == lines[0] for line in lines])


def _is_right(net, finding):
    eager, whole = finding.eager, finding.whole
    if not isinstance(eager, bool) or not isinstance(whole, bool):
        return False
    if not _is_row_of_all(net, finding.steps) or not isinstance(finding.ways, tuple):
        return False
    try:
        return is_enough(net, finding.ways, eager, whole)
    except NoWay:
        return False


def _is_row_of_all(net, steps):
    """Whether steps, any value, has each place once, and none ahead of a place that it surely waits for."""
    if not isinstance(steps, tuple) or not all([net.is_place(place) for place in steps]):
        return False
    at = {place: k for k, place in enumerate(steps)}
    table = neighbour_table(net)
    if len(at) != len(steps) or len(at) != len(table):
        return False
    for place in steps:
        for following, total in table[place].items():
            if total == 0 and at[following] <= at[place]:
                return False
    return True
