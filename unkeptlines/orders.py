"""Which instances are surely ahead of which."""

from unkeptlines.errors import NoWay, Stands
from unkeptlines.lags import Lag
from unkeptlines.ways import neighbour_table, reached_from, still, sum_along, way_back


class Order:
    """All that is surely ahead in a net that goes on."""

    def __init__(self, net):
        ring = still(net)
        if ring is not None:
            raise Stands(ring)
        self.net = net
        self._sums = _sums_between(net)

    def ahead(self, one, n, other, m):
        """Whether (one, n) is done before (other, m) in every run."""
        self.net.step(one)
        self.net.step(other)
        least = self._sums[one].get(other)
        return least is not None and m - n >= least

    def lag(self, one, other):
        """The lag from one place to the other."""
        self.net.step(one)
        self.net.step(other)
        return Lag(self._sums[one].get(other))


def _sums_between(net):
    """For each place the least sums of ways to the places that it reaches."""
    table = neighbour_table(net)
    sums = {}
    places = list(net.places())
    for place in places:
        reached = reached_from(table, place)
        sums[place] = {end: reached[end][0] for end in reached}
    return sums


class Known:
    """What is known from some ways, which are not put together."""

    def __init__(self, net, *ways):
        self.net = net
        self._ends = _ends_of(net, ways)

    @classmethod
    def made(cls, net, ways):
        """What is known from the ways in a tuple or list."""
        return cls(net, *ways)

    @classmethod
    def of(cls, net):
        """What is known from a least way from each post to each wait of another agent."""
        ways = ways_between(net)
        return cls(net, *ways)

    def ahead(self, one, n, other, m):
        """Whether (one, n) is known to be ahead of (other, m)."""
        least = self._least(one, other)
        return least is not None and m - n >= least

    def lag(self, one, other):
        """The least m for which (one, 0) is known to be ahead of (other, m), as a lag."""
        return Lag(self._least(one, other))

    def _least(self, one, other):
        """The rounds of this lag, or None."""
        self.net.step(one)
        self.net.step(other)
        if one[0] == other[0]:
            return _rounds_behind(one[1], other[1])
        found = None
        for first, last, total in self._ends.get((one[0], other[0]), ()):
            rounds = _rounds_to(one[1], first) + total + _rounds_to(last, other[1])
            if found is None or rounds < found:
                found = rounds
        return found


def _rounds_to(one, other):
    """The rounds until step other of the same agent, which may be this very instance."""
    return 0 if one <= other else 1


def _rounds_behind(one, other):
    """The rounds until step other of the same agent, behind this instance."""
    return 0 if one < other else 1


def _ends_of(net, ways):
    """For each pair of agents the rows (first step, last step, sum) of the ways between them."""
    table = neighbour_table(net)
    ends = {}
    for k, row in enumerate(ways):
        try:
            total = sum_along(net, table, row)
        except NoWay:
            raise NoWay(k) from None
        first, last = row[0], row[-1]
        if first[0] == last[0]:
            raise NoWay(k)
        ends.setdefault((first[0], last[0]), []).append((first[1], last[1], total))
    return ends


def ways_between(net):
    """A least way from each post to each wait of another agent, where there is one."""
    table = neighbour_table(net)
    places = list(net.places())
    posts = [place for place in places if net.step(place)[0] == "post"]
    waits = [place for place in places if net.step(place)[0] == "wait"]
    ways = []
    for post in posts:
        reached = reached_from(table, post)
        for wait in waits:
            if wait in reached and wait[0] != post[0]:
                ways.append(way_back(reached, post, wait))
    return ways
