"""The words of a row of the desk, and the words of its answers."""

from unkeptlines.errors import NoName, NoRow, NoStep
from unkeptlines.kinds import is_name
from unkeptlines.wording import is_number

GREATEST_ROUND = 1000


def check_many(words, many):
    """Raises NoRow if there are not so many words."""
    if len(words) != many:
        raise NoRow()


def manner_told(words):
    """The manner in words, as (eager, whole)."""
    if words not in ([], ["calm"], ["changed"], ["calm", "changed"]):
        raise NoRow()
    return ("calm" not in words, "changed" not in words)


def number_told(word):
    """The number that a word is."""
    if not is_number(word):
        raise NoRow()
    return int(word)


def round_told(word):
    """The round that a word is."""
    n = number_told(word)
    if n > GREATEST_ROUND:
        raise NoRow()
    return n


def place_told(word):
    """The name and the number of the step in a word `NAME.STEP`."""
    name, _, step = word.partition(".")
    if not is_name(name):
        raise NoRow()
    return (name, number_told(step))


def number_of_agent(net, name):
    """The number of the agent with this name."""
    names = [agent.name for agent in net.agents]
    if name not in names:
        raise NoName(name)
    return names.index(name)


def place_of(net, told):
    """The place of a name and the number of a step."""
    name, at = told
    place = (number_of_agent(net, name), at)
    if not net.is_place(place):
        raise NoStep(place)
    return place


def place_text(net, place):
    """The words for a place."""
    return f"{net.agents[place[0]].name}.{place[1]}"


def instance_text(net, place, n):
    """The words for a place with a round."""
    return f"{place_text(net, place)}@{n}"
