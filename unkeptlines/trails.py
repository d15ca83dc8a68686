"""The search for what caches can have done: all states of each line, row by row."""

from unkeptlines.errors import TooMany
from unkeptlines.records import instances_of, lines_of_log
from unkeptlines.strands import Strand


def trails_of(net, log, eager, whole, most):
    """The trails of all lines of a log, and (row, line) where the first of them ends, or None."""
    instances = instances_of(net, log)
    strands = [Strand(net, log, instances, line, eager, whole) for line in lines_of_log(net, instances)]
    trails = [Trail(strand, most) for strand in strands]
    for k in range(len(log)):
        ended = None
        for trail in trails:
            if not trail.passes(k) and ended is None:
                ended = (k, trail.strand.line)
        if ended is not None:
            return trails, ended
        # Behind the last row nobody asks for the states.
        if k + 1 < len(log):
            for trail in trails:
                trail.spread(k)
    return trails, None


class Trail:
    """The states of one line of a log, and how they come about."""

    def __init__(self, strand, most):
        self.strand = strand
        self._most = most
        # For each row that concerns the line: the states behind it, each with the one ahead of it.
        self._passed = {}
        # Between these rows: the states that occur, each with (state before it, deed of a cache), or None.
        self._layers = [self._closed([strand.first_state()])]

    def passes(self, k):
        """Goes past row k; False if it cannot be done in any state."""
        if k not in self.strand.rows:
            return True
        found = {}
        for state in self._layers[-1]:
            following = self.strand.behind(k, state)
            if following is not None and following not in found:
                found[following] = state
        self._passed[k] = found
        return len(found) > 0

    def spread(self, k):
        """Lets the caches act behind row k."""
        if k in self._passed:
            self._layers.append(self._closed(list(self._passed[k])))

    def states_ahead(self, k):
        """The states ahead of row k."""
        return tuple(list(self._layers[len([row for row in self.strand.rows if row < k])]))

    def deeds(self):
        """For each row that concerns the line what the caches do ahead of it: tuples (word, name, line)."""
        rows = {}
        state = None
        for stage, k in reversed(list(enumerate(self._passed))):
            behind = self._passed[k]
            state = behind[list(behind)[0] if state is None else state]
            rows[k] = []
            while self._layers[stage][state] is not None:
                state, word, cache = self._layers[stage][state]
                rows[k].append((word, self.strand.caches[cache].name, self.strand.line))
        return {k: rows[k][::-1] for k in rows}

    def _closed(self, states):
        """All states to which deeds of caches lead from some states, each with the way to it."""
        found = {state: None for state in states}
        queue = list(states)
        k = 0
        while k < len(queue):
            state = queue[k]
            for word, cache, following in self.strand.reached(state):
                if following not in found:
                    found[following] = (state, word, cache)
                    queue.append(following)
            if len(queue) > self._most:
                raise TooMany(self._most)
            k += 1
        return found
