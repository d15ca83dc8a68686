"""Whether each read gets the value that was written last."""

from unkeptlines.clashes import order_without_clash
from unkeptlines.faults import faults


def is_right(net, *, eager=True, whole=True):
    """Whether there are no faults in a net that goes on and has no clash."""
    order = order_without_clash(net)
    for _ in faults(net, order, eager=eager, whole=whole):
        return False
    return True
