"""The desk: it keeps a net, and does rows that change it or ask about it."""

from unkeptlines.clashes import order_without_clash
from unkeptlines.dues import due
from unkeptlines.errors import NoRow
from unkeptlines.faults import faults
from unkeptlines.flushes import flushed, mended
from unkeptlines.judge import judge
from unkeptlines.kinds import is_name
from unkeptlines.laying import laid, pads
from unkeptlines.nets import Net
from unkeptlines.phrases import (
    check_many, instance_text, manner_told, number_of_agent, number_told, place_of, place_text, place_told, round_told)
from unkeptlines.texts import net_of_rows, net_text
from unkeptlines.thirds import thirds
from unkeptlines.ways import lag
from unkeptlines.wording import steps_told

ROW_SIGN = " / "


def _change_net(_, words):
    if not words:
        raise NoRow()
    return net_of_rows(" ".join(words).split(ROW_SIGN)), "ok"


def _change_line(net, words):
    check_many(words, 1)
    return net.with_line(number_told(words[0])), "ok"


def _change_steps(net, words):
    steps = steps_told(words[1:])
    if not words or not is_name(words[0]) or steps is None:
        raise NoRow()
    number = number_of_agent(net, words[0])
    agents = list(net.agents)
    agents[number] = agents[number].with_steps(*steps)
    return net.with_agents(*agents), "ok"


def _change_flush(net, words):
    check_many(words, 0)
    return flushed(net), "ok"


def _change_mend(net, words):
    eager, whole = manner_told(words)
    following = mended(net, eager=eager, whole=whole)
    return following, f"flushes {_many_steps(following) - _many_steps(net)}"


def _many_steps(net):
    return sum([len(agent) for agent in net.agents])


def _change_lay(net, words):
    check_many(words, 0)
    following = laid(net)
    return following, f"pads {pads(following)}"


def _ask_show(net, words):
    check_many(words, 0)
    return net_text(net).replace("\n", ROW_SIGN)


def _ask_judge(net, words):
    eager, whole = manner_told(words)
    return judge(net, eager=eager, whole=whole).word


def _ask_fault(net, words):
    eager, whole = manner_told(words)
    order = order_without_clash(net)
    for fault in faults(net, order, eager=eager, whole=whole):
        return f"{place_text(net, fault.place)} {fault.round} {fault.address} {fault.word}"
    return "none"


def _ask_lag(net, words):
    check_many(words, 2)
    one, other = [place_told(word) for word in words]
    least = lag(net, place_of(net, one), place_of(net, other))
    return str(least.rounds) if least else "none"


def _ask_due(net, words):
    check_many(words, 2)
    told = place_told(words[0])
    n = round_told(words[1])
    writes = due(net, place_of(net, told), n)
    return " ".join(["-" if write is None else instance_text(net, write[0], write[1]) for write in writes])


def _ask_third(net, words):
    check_many(words, 0)
    for write, i, third, j, x, y in thirds(net):
        return f"{instance_text(net, write, i)} {instance_text(net, third, j)} {x} {y}"
    return "none"


def _ask_pads(net, words):
    check_many(words, 0)
    return str(pads(net))


# Each of these takes a net and the words behind the first one; a change returns another net and its answer.
CHANGES = {
    "net": _change_net, "line": _change_line, "steps": _change_steps, "flush": _change_flush, "mend": _change_mend,
    "lay": _change_lay}
ASKS = {
    "show": _ask_show, "judge": _ask_judge, "fault": _ask_fault, "lag": _ask_lag, "due": _ask_due, "third": _ask_third,
    "pads": _ask_pads}


class Desk:
    """A desk with a net, at first an empty one."""

    def __init__(self):
        self._nets = [Net()]

    @property
    def current(self):
        """The net that the desk keeps."""
        return self._nets[-1]

    def say(self, row):
        """Does a row, any value; its answer."""
        if not isinstance(row, str):
            raise NoRow()
        words = row.split(" ")
        word = words[0]
        net = self._nets[-1]
        if word in CHANGES:
            change = CHANGES[word]
            following, answer = change(net, words[1:])
            self._nets.append(following)
            return answer
        if word in ASKS:
            ask = ASKS[word]
            return ask(net, words[1:])
        if word != "undo":
            raise NoRow()
        check_many(words, 1)
        return self._undo()

    def _undo(self):
        if len(self._nets) == 1:
            return "nothing"
        self._nets.pop()
        return "ok"
