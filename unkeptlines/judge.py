"""The judgement of a net, with its evidence."""

from unkeptlines.clashes import clash, meeting
from unkeptlines.faults import faults
from unkeptlines.findings import Clash, Right, Still, Wrong
from unkeptlines.orders import Order
from unkeptlines.proofs import needed_ways, row_of_all
from unkeptlines.ways import still
from unkeptlines.wrongs import wrong_run


def judge(net, *, eager=True, whole=True):
    """The first that applies of a Still, a Clash, a Wrong and a Right."""
    ring = still(net)
    if ring is not None:
        return Still(ring)
    found = clash(net)
    if found is not None:
        one, n, other, m = found
        return Clash(one, other, meeting(net, one, n, other, m))
    order = Order(net)
    for fault in faults(net, order, eager=eager, whole=whole):
        return Wrong(wrong_run(net, fault, eager=eager, whole=whole), eager, whole)
    return Right(row_of_all(net), needed_ways(net, eager, whole), eager, whole)
