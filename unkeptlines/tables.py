"""Tables that show that no caches can have made a log."""

from unkeptlines.kinds import is_integer
from unkeptlines.records import instances_of, is_worth, lines_of_log
from unkeptlines.strands import Strand


def is_none_table(net, log, table, eager, whole):
    """Whether a table, any value, shows that no state is left for a row of the log; raises NoRun."""
    instances = instances_of(net, log)
    if not isinstance(table, tuple) or len(table) != 2:
        return False
    line, sets = table
    if not is_integer(line) or line not in lines_of_log(net, instances):
        return False
    if not isinstance(sets, tuple) or not 1 <= len(sets) <= len(log):
        return False
    strand = Strand(net, log, instances, line, eager, whole)
    if not all([_is_set(strand, states) for states in sets]):
        return False
    members = [{state: True for state in states} for states in sets]
    return strand.first_state() in members[0] and _is_closed(strand, members) and _is_end(strand, members)


def _is_set(strand, value):
    return isinstance(value, tuple) and all([_is_state(strand, state) for state in value])


def _is_state(strand, value):
    """Whether a value has the form of a state of the line."""
    if not isinstance(value, tuple) or len(value) != 2:
        return False
    memory, copies = value
    if not _is_row(strand, memory) or not isinstance(copies, tuple) or len(copies) != len(strand.caches):
        return False
    return all([_is_copy(strand, agent, copy) for agent, copy in zip(strand.caches, copies)])


def _is_row(strand, value):
    if not isinstance(value, tuple) or len(value) != strand.size:
        return False
    return all([is_worth(one) for one in value])


def _is_copy(strand, agent, value):
    if value is None:
        return True
    if not isinstance(value, tuple) or len(value) != 2:
        return False
    values, marks = value
    if not _is_row(strand, values) or not isinstance(marks, tuple) or len(marks) != strand.size:
        return False
    return all([isinstance(mark, bool) and (agent.KIND == "back" or not mark) for mark in marks])


def _is_closed(strand, members):
    """Whether no deed of a cache and no row but the last one leads out of the sets."""
    for k, states in enumerate(members):
        for state in states:
            if not all([deed[2] in states for deed in strand.reached(state)]):
                return False
            if k + 1 < len(members):
                following = strand.behind(k, state)
                if following is not None and following not in members[k + 1]:
                    return False
    return True


def _is_end(strand, members):
    """Whether the row of the last set is a read that returns other values than the log tells in all states."""
    k = len(members) - 1
    return strand.is_read(k) and all([strand.behind(k, state) is None for state in members[k]])
