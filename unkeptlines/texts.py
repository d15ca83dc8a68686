"""Nets as texts."""

from unkeptlines.agents import Agent, Back, Through
from unkeptlines.errors import NoText
from unkeptlines.kinds import is_name
from unkeptlines.nets import Net
from unkeptlines.signals import Signal
from unkeptlines.variables import MOST_SLOTS, Variable
from unkeptlines.wording import are_numbers, steps_text, steps_told

# In a text the rows of each kind stand behind those of the kinds before it.
KINDS = ("var", "signal", "agent")
AGENT_WORDS = ("plain", "through", "back")


def net_text(net):
    """The text of a net."""
    rows = [f"line {net.line}", f"ring {net.ring}"]
    for variable in net.variables:
        numbers = [str(number) for number in (variable.size, *variable.at)]
        rows.append(" ".join(["var", variable.name, *numbers]))
    for signal in net.signals:
        rows.append(f"signal {signal.name} {signal.tokens}")
    for agent in net.agents:
        rows.append(f"{agent.KIND} {agent.name} {steps_text(agent.steps)}")
    return "\n".join(rows)


def read_net(text):
    """The net with this text, any value."""
    if not isinstance(text, str):
        raise NoText(0)
    return net_of_rows(text.split("\n"))


def net_of_rows(rows):
    """The net with these rows, a list of strings."""
    heads = []
    for k, word in enumerate(("line", "ring")):
        number = _number_behind(word, rows[k]) if k < len(rows) else None
        if number is None:
            raise NoText(k)
        heads.append(number)
    told = []
    latest = 0
    for k, row in enumerate(rows[2:], start=2):
        part = _part_told(row.split(" "))
        if part is None or KINDS.index(part[0]) < latest:
            raise NoText(k)
        latest = KINDS.index(part[0])
        told.append(part)
    return Net.made([_part_made(part) for part in told], line=heads[0], ring=heads[1])


def _number_behind(word, row):
    """The number of a row `WORD N`; None if it is of another form."""
    words = row.split(" ")
    if len(words) != 2 or words[0] != word or not are_numbers(words[1:]):
        return None
    return int(words[1])


def _part_told(words):
    """What the words of a row tell of a part, its kind first; None if they are not of the form."""
    if len(words) < 2 or not is_name(words[1]):
        return None
    word, name = words[:2]
    rest = words[2:]
    if word in AGENT_WORDS:
        steps = steps_told(rest)
        return None if steps is None else ("agent", name, word, steps)
    if not are_numbers(rest):
        return None
    numbers = [int(number) for number in rest]
    if word == "var" and 2 <= len(numbers) <= 1 + MOST_SLOTS:
        return ("var", name, numbers[0], numbers[1:])
    if word == "signal" and len(numbers) == 1:
        return ("signal", name, numbers[0])
    return None


def _part_made(part):
    kind, name = part[:2]
    if kind == "var":
        return Variable.made(name, part[2], part[3])
    if kind == "signal":
        return Signal(name, part[2])
    return _agent_made(name, part[2], part[3])


def _agent_made(name, word, steps):
    if word == "plain":
        return Agent.made(name, steps)
    return Through.made(name, steps) if word == "through" else Back.made(name, steps)
