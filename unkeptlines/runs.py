"""Runs, written down as rows."""

from unkeptlines.errors import Blocked, NoDeed, NoName, NoRun
from unkeptlines.machine import Machine

MOST_ROWS = 4000
DEEDS = ("fetch", "write_back", "discard")


def play(net, rows, *, eager=True, whole=True):
    """A machine that has done all rows."""
    machine, _ = played(net, rows, eager, whole)
    return machine


def played(net, rows, eager, whole):
    """A machine that has done all rows, and the steps that it did: (name, what the step returned) for each."""
    if not isinstance(rows, (tuple, list)) or len(rows) > MOST_ROWS:
        raise NoRun(0)
    machine = Machine(net, eager=eager, whole=whole)
    steps = []
    for k, row in enumerate(rows):
        if not _is_row(row):
            raise NoRun(k)
        try:
            got = _do(machine, row)
        except (NoName, Blocked, NoDeed):
            raise NoRun(k) from None
        if row[0] == "step":
            steps.append((row[1], got))
    return machine, tuple(steps)


def _is_row(value):
    """Whether a value has the form of a row; names and lines are any values here."""
    if not isinstance(value, tuple):
        return False
    if len(value) == 2:
        return value[0] == "step"
    return len(value) == 3 and value[0] in DEEDS


def _do(machine, row):
    """Does a row; what a step of it returns."""
    word, name = row[:2]
    if word == "step":
        return machine.step(name)
    if word == "fetch":
        machine.fetch(name, row[2])
    elif word == "write_back":
        machine.write_back(name, row[2])
    else:
        machine.discard(name, row[2])
    return None
