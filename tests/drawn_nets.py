"""Nets with variables for the tests, the same ones at each run: some hand their variables on in turn, some do not."""

import random

from unkeptlines.agents import Agent, Back, Through
from unkeptlines.nets import Net
from unkeptlines.signals import Signal
from unkeptlines.variables import Variable

KINDS = (Agent, Through, Back, Back)
MANNERS = [{"eager": eager, "whole": whole} for eager in (True, False) for whole in (True, False)]


def drawn_variables(chance, ring, most=3, room=24):
    """Up to three variables on the first addresses, some of them with a slot for each round of the ring."""
    taken, variables = set(), []
    for name in "uvw"[:chance.randint(1, most)]:
        size = chance.choice((1, 1, 2, 3, 4, 8))
        at = []
        for _ in range(chance.choice((1, ring))):
            free = [address for address in range(room) if not taken & set(range(address, address + size))]
            if not free:
                break
            at.append(chance.choice(free[:6]))
            taken |= set(range(at[-1], at[-1] + size))
        if len(at) in (1, ring):
            variables.append(Variable(name, size, *at))
    return variables or [Variable("u", 2, 3)]


def drawn_access(chance, variables, words):
    variable = chance.choice(variables)
    first = chance.randint(0, variable.size - 1)
    last = chance.randint(first, variable.size - 1)
    shift = chance.choice((0, 0, 0, 1, 3))
    return (chance.choice(words), variable.name, shift, first, last)


def drawn_step(chance, variables, kind):
    if kind is Agent:
        return drawn_access(chance, variables, ("read", "write"))
    words = ("read", "read", "read", "write", "write", "get", "put", "clean", "drop", "flush", "flush")
    return drawn_access(chance, variables, words)


def guarded(chance, step, kind):
    """The step, perhaps with upkeep ahead of it or behind it."""
    steps = [step]
    if kind is not Agent and step[0] in ("read", "write") and chance.random() < 0.6:
        if chance.random() < 0.8:
            steps.insert(0, (chance.choice(("drop", "flush")), *step[1:]))
        if chance.random() < 0.8:
            steps.append((chance.choice(("clean", "flush", "flush")), *step[1:]))
    return steps


def net_in_turn(seed):
    """Agents that take turns: each turn waits for the one before it. Sometimes a turn has several tokens."""
    chance = random.Random(seed)
    ring = chance.choice((1, 1, 2, 3, 4))
    variables = drawn_variables(chance, ring)
    agents = chance.randint(2, 4)
    kinds = [chance.choice(KINDS) for _ in range(agents)]
    turns = list(range(agents))
    while len(turns) < 6 and chance.random() < 0.4:
        turns.append(chance.randrange(agents))
    chance.shuffle(turns)
    rows = [[] for _ in range(agents)]
    tokens = [0] * (len(turns) - 1) + [1]
    if chance.random() < 0.3:
        tokens[chance.randrange(len(turns))] += chance.choice((1, 2))
    for k, turn in enumerate(turns):
        row = rows[turn]
        row.append(("wait", "s" + "abcdef"[k - 1 if k else len(turns) - 1]))
        for _ in range(chance.choice((1, 1, 2, 3))):
            row.extend(guarded(chance, drawn_step(chance, variables, kinds[turn]), kinds[turn]))
        row.append(("post", "s" + "abcdef"[k]))
    if chance.random() < 0.3:
        # A step outside of all turns.
        turn = chance.randrange(agents)
        rows[turn].insert(chance.randint(0, len(rows[turn])), drawn_step(chance, variables, kinds[turn]))
    signals = [Signal("s" + "abcdef"[k], min(3, many)) for k, many in enumerate(tokens)]
    made = [kind("p" + "abcd"[k], *row[:24]) for k, (kind, row) in enumerate(zip(kinds, rows))]
    if any(len(row) > 24 for row in rows):
        return net_in_turn(seed + 1000003)
    return Net(*variables, *signals, *made, line=chance.choice((1, 2, 4, 4, 8, 16)), ring=ring)


def net_at_random(seed):
    """Agents with any steps; most of these nets have a clash, and some stand still."""
    chance = random.Random(seed)
    ring = chance.choice((1, 2, 3, 4))
    variables = drawn_variables(chance, ring)
    kinds = [chance.choice(KINDS) for _ in range(chance.randint(1, 4))]
    rows = [[drawn_step(chance, variables, kind) for _ in range(chance.randint(1, 5))] for kind in kinds]
    signals = []
    for name in ["s" + sign for sign in "abcdef"[:chance.randint(0, 6)]]:
        signals.append(Signal(name, chance.choice((0, 0, 1, 1, 2, 3))))
        for word in ("post", "wait"):
            row = chance.choice(rows)
            row.insert(chance.randint(0, len(row)), (word, name))
    agents = [kind("p" + "abcd"[k], *row) for k, (kind, row) in enumerate(zip(kinds, rows))]
    return Net(*variables, *signals, *agents, line=chance.choice((1, 2, 4, 8, 16)), ring=ring)


def packed_variables(chance, ring, many):
    """Variables side by side, in any order, so that several are on one line."""
    rows = []
    for name in "uvwxyz"[:many]:
        rows.append((name, chance.choice((1, 1, 2, 3)), chance.choice((1, ring))))
    slots = [name for name, _, slots in rows for _ in range(slots)]
    chance.shuffle(slots)
    sizes = {name: size for name, size, _ in rows}
    at, address = {name: [] for name in sizes}, chance.choice((0, 0, 1, 5))
    for name in slots:
        at[name].append(address)
        address += sizes[name] + chance.choice((0, 0, 0, 1, 3))
    return [Variable(name, sizes[name], *at[name]) for name in sizes]


def net_in_pairs(seed):
    """Pairs of agents that hand variables of their own on; the pairs do not know of each other, but share lines."""
    chance = random.Random(seed)
    ring = chance.choice((1, 1, 2, 3, 4))
    groups = chance.choice(([0, 1, None, 2], [0, 1, 2, 3], [0, 1, 2], [0, 1, None, 2, 3][:4]))
    groups = [[one for one in groups[:2] if one is not None], [one for one in groups[2:] if one is not None]]
    variables = packed_variables(chance, ring, chance.choice((2, 3, 4)))
    cut = chance.randint(1, len(variables) - 1)
    parts, signs = [], list("abcdef")
    rows, kinds = {}, {}
    for group, own in zip(groups, (variables[:cut], variables[cut:])):
        for one in group:
            kinds[one], rows[one] = chance.choice(KINDS), []
        if len(group) == 1:
            for _ in range(chance.choice((1, 2, 3))):
                rows[group[0]].extend(guarded(chance, drawn_step(chance, own, kinds[group[0]]), kinds[group[0]]))
            continue
        names = ["s" + signs.pop(0), "s" + signs.pop(0)]
        tokens = chance.choice((1, 1, 1, 2, 3, ring))
        parts += [Signal(names[0]), Signal(names[1], min(3, tokens))]
        for k, one in enumerate(group):
            rows[one].append(("wait", names[1 - k]))
            for _ in range(chance.choice((1, 1, 2, 3))):
                word = ("write", "put") if k == 0 else ("read", "get")
                step = drawn_access(chance, own, word[:1] if kinds[one] is Agent else word[:1] * 3 + word[1:])
                if chance.random() < 0.3:
                    step = drawn_step(chance, own, kinds[one])
                rows[one].extend(guarded(chance, step, kinds[one]))
            rows[one].append(("post", names[k]))
    agents = [kinds[one]("p" + "abcd"[one], *rows[one][:24]) for one in sorted(rows)]
    return Net(*variables, *parts, *agents, line=chance.choice((2, 4, 4, 8, 16)), ring=ring)


def filled_row(chance, row, many, variables, kind, words=None):
    """A row of steps, with more of them behind, until there are so many."""
    row = list(row)
    while len(row) < many:
        step = drawn_step(chance, variables, kind)
        if words is not None:
            step = drawn_access(chance, variables, words[:1] if kind is Agent else words)
        row.extend(guarded(chance, step, kind))
    return row[:many]


def large_net(seed):
    """Four agents of 24 steps and six variables: they take turns, or are two pairs, or do not know of each other."""
    chance = random.Random(seed)
    ring = chance.choice((1, 2, 3, 4, 4))
    variables, address = [], 0
    for name in "uvwxyz":
        size, at = chance.choice((1, 2, 4, 8)), []
        for _ in range(chance.choice((1, ring))):
            at.append(address)
            address += size + chance.choice((0, 0, 1, 8))
        variables.append(Variable(name, size, *at))
    kinds = [chance.choice(KINDS) for _ in range(4)]
    manner = seed % 3
    if manner == 0:
        signals = [Signal("sa"), Signal("sb"), Signal("sc"), Signal("sd", chance.choice((1, 1, 1, 2, 3)))]
        rows = [filled_row(chance, [("wait", "s" + "dabc"[k])], 23, variables, kinds[k]) for k in range(4)]
        rows = [row + [("post", "s" + "abcd"[k])] for k, row in enumerate(rows)]
    elif manner == 1:
        many = [chance.choice((1, 1, 2, 3)) for _ in range(2)]
        signals = [Signal("sa"), Signal("sb", many[0]), Signal("sc"), Signal("sd", many[1])]
        rows = []
        for k in range(4):
            own, words = variables[k // 2 * 3:][:3], (("write", "put"), ("read", "get"))[k % 2]
            row = filled_row(chance, [("wait", "s" + "badc"[k])], 23, own, kinds[k], words)
            rows.append(row + [("post", "s" + "abcd"[k])])
        if chance.random() < 0.5:
            # The pairs are far apart, but not without limit.
            signals += [Signal("se", 3), Signal("sf", 3)]
            rows[0][5], rows[2][7], rows[2][9], rows[0][11] = ("post", "se"), ("wait", "se"), ("post", "sf"), ("wait", "sf")
    else:
        signals = []
        rows = [filled_row(chance, [], 24, [variables[k]], kinds[k]) for k in range(4)]
    agents = [kind("p" + "abcd"[k], *row) for k, (kind, row) in enumerate(zip(kinds, rows))]
    return Net(*variables, *signals, *agents, line=chance.choice((4, 8, 16)), ring=ring)
