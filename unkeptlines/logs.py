"""Logs: which steps were done and what the reads returned, but not what the caches did."""

from unkeptlines.errors import TooMany
from unkeptlines.records import LONGEST_LOG
from unkeptlines.runs import played
from unkeptlines.tables import is_none_table
from unkeptlines.trails import trails_of


def log_of(net, rows, *, eager=True, whole=True):
    """The log of the steps that play does with these rows."""
    _, steps = played(net, rows, eager, whole)
    if len(steps) > LONGEST_LOG:
        raise TooMany(LONGEST_LOG)
    return steps


def explained(net, log, *, eager=True, whole=True, most=500):
    """("run", rows) with a run that has this log, or ("none", k, line) with the first row that cannot be so."""
    trails, ended = trails_of(net, log, eager, whole, most)
    if ended is not None:
        return ("none", *ended)
    return ("run", _run_of(log, trails))


def none_table(net, log, *, eager=True, whole=True, most=500):
    """A table that holds_none accepts; None if the log has a run."""
    trails, ended = trails_of(net, log, eager, whole, most)
    if ended is None:
        return None
    row, line = ended
    for trail in trails:
        if trail.strand.line == line:
            return (line, tuple([trail.states_ahead(k) for k in range(row + 1)]))
    return None


def holds_none(net, log, table, *, eager=True, whole=True):
    """Whether a table, any value, shows that no machine can have made the log."""
    return is_none_table(net, log, table, eager, whole)


def _run_of(log, trails):
    """The rows of the log with what the caches do ahead of each."""
    deeds = [trail.deeds() for trail in trails]
    rows = []
    for k, (name, _) in enumerate(log):
        for own in deeds:
            rows.extend(own.get(k, []))
        rows.append(("step", name))
    return tuple(rows)
