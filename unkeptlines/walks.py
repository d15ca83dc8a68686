"""Runs of steps in which just that is done which must be."""

from unkeptlines.steps import concerns_signal


class Walk:
    """A run that begins where nothing is done; caches play no part in it."""

    def __init__(self, net, order):
        self._net = net
        self._order = order
        self._done = [0 for _ in net.agents]
        self._tokens = {signal.name: signal.tokens for signal in net.signals}

    def up_to(self, place, n):
        """Does all that is ahead of (place, n); the names of the agents, one for each step."""
        return self._go(self._goals(place, n))

    def through(self, place, n):
        """Does (place, n) and all that is ahead of it; the names of the agents, one for each step."""
        goals = self._goals(place, n)
        goals[place[0]] += 1
        return self._go(goals)

    def _goals(self, place, n):
        """How many steps of each agent are ahead of (place, n)."""
        goals = []
        for a, agent in enumerate(self._net.agents):
            goal = 0
            for s in range(len(agent.steps)):
                least = self._order.lag((a, s), place).rounds
                if least is not None and n >= least:
                    many = (n - least) * len(agent.steps) + s + 1
                    goal = many if many > goal else goal
            goals.append(goal)
        return goals

    def _go(self, goals):
        # What is ahead of something is ahead of it with all that it waits for: so one never gets stuck.
        names = []
        moved = True
        while moved:
            moved = False
            for a, goal in enumerate(goals):
                while self._done[a] < goal and self._can(a):
                    self._step(a)
                    names.append(self._net.agents[a].name)
                    moved = True
        return names

    def _next_step(self, a):
        steps = self._net.agents[a].steps
        return steps[self._done[a] % len(steps)]

    def _can(self, a):
        word, name = self._next_step(a)[:2]
        return word != "wait" or self._tokens[name] > 0

    def _step(self, a):
        step = self._next_step(a)
        if concerns_signal(step):
            word, name = step
            self._tokens[name] += 1 if word == "post" else -1
        self._done[a] += 1
