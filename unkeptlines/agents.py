"""Agents without a cache, with one that writes through, with one that writes back."""

from unkeptlines.errors import NoPart
from unkeptlines.kinds import is_name
from unkeptlines.steps import CACHE_WORDS, PLAIN_WORDS, is_step

MOST_STEPS = 24


def _check_agent(name, steps, words):
    if not is_name(name):
        raise NoPart("name", None)
    if not 1 <= len(steps) <= MOST_STEPS:
        raise NoPart("steps", None)
    for k, step in enumerate(steps):
        if not is_step(step) or step[0] not in words:
            raise NoPart("step", k)


class Agent:
    """An agent without a cache."""

    KIND = "plain"
    CACHED = False

    def __init__(self, name, *steps):
        _check_agent(name, steps, PLAIN_WORDS)
        self.name = name
        self.steps = steps

    @classmethod
    def made(cls, name, steps):
        """The agent with the steps in a tuple or list."""
        return cls(name, *steps)

    def __len__(self):
        return len(self.steps)

    def __getitem__(self, at):
        return self.steps[at]

    def __iter__(self):
        raise TypeError("an agent is not iterated over: take its attribute steps")

    def __eq__(self, other):
        return (isinstance(other, Agent) and self.KIND == other.KIND
                and self.name == other.name and self.steps == other.steps)

    def may(self, word):
        """Whether a step with this word is allowed; word is any value."""
        return word in PLAIN_WORDS

    def with_steps(self, *steps):
        """An agent of this class and name with other steps."""
        return Agent(self.name, *steps)


# Each class has all methods in its own body: the document lists them for each of the three.
class Through(Agent):
    """An agent with a cache that writes through."""

    KIND = "through"
    CACHED = True

    def __init__(self, name, *steps):
        _check_agent(name, steps, CACHE_WORDS)
        self.name = name
        self.steps = steps

    @classmethod
    def made(cls, name, steps):
        """The agent with the steps in a tuple or list."""
        return cls(name, *steps)

    def __len__(self):
        return len(self.steps)

    def __getitem__(self, at):
        return self.steps[at]

    def __iter__(self):
        raise TypeError("an agent is not iterated over: take its attribute steps")

    def __eq__(self, other):
        return (isinstance(other, Through) and self.KIND == other.KIND
                and self.name == other.name and self.steps == other.steps)

    def may(self, word):
        """Whether a step with this word is allowed; word is any value."""
        return word in CACHE_WORDS

    def with_steps(self, *steps):
        """An agent of this class and name with other steps."""
        return Through(self.name, *steps)


class Back(Through):
    """An agent with a cache that writes back."""

    KIND = "back"
    CACHED = True

    def __init__(self, name, *steps):
        _check_agent(name, steps, CACHE_WORDS)
        self.name = name
        self.steps = steps

    @classmethod
    def made(cls, name, steps):
        """The agent with the steps in a tuple or list."""
        return cls(name, *steps)

    def __len__(self):
        return len(self.steps)

    def __getitem__(self, at):
        return self.steps[at]

    def __iter__(self):
        raise TypeError("an agent is not iterated over: take its attribute steps")

    def __eq__(self, other):
        return (isinstance(other, Back) and self.KIND == other.KIND
                and self.name == other.name and self.steps == other.steps)

    def may(self, word):
        """Whether a step with this word is allowed; word is any value."""
        return word in CACHE_WORDS

    def with_steps(self, *steps):
        """An agent of this class and name with other steps."""
        return Back(self.name, *steps)
