"""[32] and [33]: holds."""

import copy
import itertools
import random
import unittest

from drawn_nets import MANNERS, net_at_random, net_in_pairs, net_in_turn
from helpers import ANY, FILL, Case
from nets_by_seed import net_by_seed, pairs_of
from plain_judgement import Plain
from plain_machine import PlainMachine, drawn_rows
from unkeptlines.agents import Agent, Back, Through
from unkeptlines.checker import holds
from unkeptlines.clashes import clash, meeting
from unkeptlines.errors import NoWay
from unkeptlines.findings import Clash, Finding, Right, Still, Wrong
from unkeptlines.judge import judge
from unkeptlines.nets import Net
from unkeptlines.orders import Known
from unkeptlines.signals import Signal
from unkeptlines.variables import Variable
from unkeptlines.ways import still, sum_of, way

MAKERS = (net_in_turn, net_at_random, net_in_pairs)
X = Variable("x", 1, 0)
READ, WRITE = ("read", "x", 0, 0, 0), ("write", "x", 0, 0, 0)
# Values that are no field of any finding that holds.
STRANGE = [value for value in ANY if value not in ((), True, False, (0, 0))] + [
    (None, None), ((0, 0), None), (("step", "a"), None), ("a", None), ("a", ["a"]), ({}, {}), (0, "a"), ((0, True),),
    ((0, 0, 0), (0, 1)), ((-1, 0), (0, 0)), ((0, 0), (9, 0)), ((0, 0), (0, 99)), [("step", "a")], [(0, 0), (0, 0)]]


class Any(Case):
    """What is no finding at all, or has fields of any values."""

    NETS = [Net(), FILL, Net(X, Signal("s"), Agent("a", ("wait", "s"), ("post", "s"))),
            Net(X, Agent("a", WRITE), Agent("b", READ))]

    def test_any_values(self):
        for net in self.NETS:
            for value in STRANGE:
                before = copy.deepcopy(value)
                for finding in (Still(value), Clash(value, value, value), Wrong(value, value, value),
                                Right(value, value, value, value)):
                    self.assertIs(holds(net, finding), False, (value, finding.word))
                self.assertEqual(value, before)

    def test_one_field_that_is_strange(self):
        for net in self.NETS + [Net(X, Back("a", WRITE, ("drop", "x", 0, 0, 0), READ))]:
            found = judge(net)
            names = [name for name in vars(found) if name != "word"]
            good = [getattr(found, name) for name in names]
            self.assertIs(holds(net, found), True)
            for k in range(len(names)):
                for value in STRANGE + [0, 1, None, "True"]:
                    fields = good[:k] + [value] + good[k + 1:]
                    self.assertIs(holds(net, type(found)(*fields)), False, (found.word, names[k], value))

    def test_another_class(self):
        for net in self.NETS:
            for value in ANY + [Finding(), net]:
                self.assertIs(holds(net, value), False)
        self.assertIs(holds(net=FILL, finding=judge(FILL)), True)

    def test_changes_nothing(self):
        for net in self.NETS:
            found = judge(net)
            before = copy.deepcopy((net, vars(found)))
            holds(net, found)
            self.assertEqual((net, vars(found)), before)


class Stills(Case):
    NET = Net(
        X, Signal("s"), Signal("t"), Signal("u", 2), Signal("v"),
        Agent("a", ("wait", "s"), ("post", "t"), ("wait", "u")), Agent("b", ("wait", "t"), READ, ("post", "s")),
        Agent("c", ("post", "v"), ("wait", "v"), ("post", "u")))
    RING = ((0, 0), (0, 1), (1, 0), (1, 1), (1, 2), (0, 0))

    def test_at_any_place(self):
        self.assertIs(holds(self.NET, Still(self.RING)), True)
        row = self.RING[:-1]
        for k in range(len(row)):
            turned = row[k:] + row[:k]
            self.assertIs(holds(self.NET, Still((*turned, turned[0]))), True)
            self.assertIs(holds(self.NET, Still((*turned, *turned, turned[0]))), True)
            self.assertIs(holds(self.NET, Still(turned)), False)
            self.assertIs(holds(self.NET, Still([*turned, turned[0]])), False)
            self.assertIs(holds(self.NET, Still((*turned[::-1], turned[-1]))), False)

    def test_no_ring(self):
        self.assertIs(holds(self.NET, Still(((0, 0), (0, 1), (1, 0)))), False)
        self.assertIs(holds(self.NET, Still(((0, 0),))), False)
        self.assertIs(holds(self.NET, Still(((0, 0), (0, 0)))), False)
        # A way that comes back, but with a sum.
        self.assertIs(holds(self.NET, Still(((2, 0), (2, 1), (2, 2), (2, 0)))), False)
        self.assertIs(holds(FILL, Still(((0, 0), (0, 1), (0, 2), (1, 0), (1, 1), (1, 2), (0, 0)))), False)
        for value in (True, 0, (True, 0), (0, False), [0, 0], "a"):
            self.assertIs(holds(self.NET, Still((value, *self.RING[1:]))), False)

    def test_by_seed(self):
        """All rings of places up to a length, in the nets that stand still and in others."""
        seen = []
        for seed in range(60):
            net = net_by_seed(seed)
            places = list(net.places())
            if len(places) > 8:
                continue
            sums, rings = {}, 0
            for one, other, more in pairs_of(net):
                sums[one, other] = min(more, sums.get((one, other), more))
            for many in (2, 3, 4):
                for row in itertools.product(places, repeat=many):
                    steps = list(zip(row, row[1:]))
                    true = all(step in sums for step in steps) and row[0] == row[-1]
                    true = true and sum(sums[step] for step in steps) == 0
                    self.assertIs(holds(net, Still(row)), true)
                    seen.append(true)
                    rings += true
            self.assertTrue(rings == 0 or still(net) is not None)
        self.assertGreater(seen.count(True), 3)


class Clashing(Case):
    NET = Net(
        Variable("x", 2, 0, 2), Signal("s"), Back("a", ("write", "x", 0, 0, 0), ("read", "x", 0, 0, 1), ("post", "s")),
        Through("b", ("read", "x", 0, 0, 1), ("put", "x", 1, 1, 1), ("wait", "s")),
        Agent("c", ("read", "x", 0, 1, 1)), ring=2)

    def plain(self, finding):
        """What [32] says, for a run of strings."""
        net, machine = self.NET, PlainMachine(self.NET, True, True)
        for name in finding.run:
            if name not in machine.agents or not machine.can(name):
                return False
            machine.step(name)
        (a, s), (b, t) = finding.one, finding.other
        n, m = [machine.next_of(net.agents[k].name) for k in (a, b)]
        if a == b or (n[0], m[0]) != (s, t):
            return False
        words = net.step((a, s))[0], net.step((b, t))[0]
        if not all(word in ("read", "write", "get", "put") for word in words):
            return False
        both = set(net.touched((a, s), n[1])) & set(net.touched((b, t), m[1]))
        return bool(both) and bool({"write", "put"} & set(words))

    def test_all_short_runs(self):
        seen = []
        places = list(self.NET.places())
        for many in range(6):
            for run in itertools.product(("a", "b", "c", "d"), repeat=many):
                if many < 3 or random.Random(repr(run)).random() < 0.1:
                    for one in places:
                        for other in places:
                            finding = Clash(one, other, run)
                            true = self.plain(finding)
                            self.assertIs(holds(self.NET, finding), true, (one, other, run))
                            seen.append(true)
        self.assertGreater(seen.count(True), 15)

    def test_by_hand(self):
        net = Net(X, Variable("y", 1, 1), Signal("s"), Agent("a", WRITE, ("post", "s")), Agent("b", READ, READ),
                  Agent("c", ("wait", "s"), WRITE, ("write", "y", 0, 0, 0)), Agent("d", ("write", "y", 0, 0, 0)))
        self.assertIs(holds(net, Clash((0, 0), (1, 0), ())), True)
        self.assertIs(holds(net, Clash((1, 0), (0, 0), ())), True)
        self.assertIs(holds(net, Clash((1, 1), (0, 0), ("b",))), True)
        for one, other, run in (
                ((0, 0), (0, 0), ()), ((0, 0), (1, 1), ()), ((1, 0), (0, 0), ("b",)), ((0, 0), (3, 0), ()),
                ((1, 0), (2, 1), ()), ((1, 0), (2, 0), ()), ((0, 1), (1, 0), ("a",)), ((0, 0), (1, 0), ["a"]),
                ((1, 0), (2, 1), ("c",)), ((0, 0), (1, 0), ("x",)), ((0, 0), (1, 0), ("s",)), ((0, 0), (1, 0), ("",)),
                ([0, 0], (1, 0), ()), ((0, 0), [1, 0], ()), ((0, False), (1, 0), ()), ((0, 0), (1, 0), "")):
            self.assertIs(holds(net, Clash(one, other, run)), False, (one, other, run))
        self.assertIs(holds(net, Clash((1, 0), (2, 1), ("a", "a", "c"))), True)
        # Upkeep is no access, whatever the other agent does.
        kept = net.with_agents(Agent("a", WRITE, ("post", "s")), Back("b", ("flush", "x", 0, 0, 0), ("put", "x", 0, 0, 0)),
                               Back("c", ("wait", "s"), ("drop", "x", 0, 0, 0)))
        for one, other, run, true in (((0, 0), (1, 0), (), False), ((1, 0), (0, 0), (), False), ((0, 0), (1, 1), ("b",), True),
                                      ((1, 1), (2, 1), ("a", "b", "c"), False), ((2, 1), (1, 1), ("a", "b", "c"), False)):
            self.assertIs(holds(kept, Clash(one, other, run)), true)
        reads = net.with_agents(Agent("a", READ, ("post", "s")), Agent("b", READ), Agent("c", ("wait", "s")))
        self.assertIs(holds(reads, Clash((0, 0), (1, 0), ())), False)

    def test_how_many(self):
        net = Net(X, Agent("a", WRITE), Agent("b", READ), Agent("c", READ))
        self.assertIs(holds(net, Clash((0, 0), (1, 0), ("c",) * 4000)), True)
        self.assertIs(holds(net, Clash((0, 0), (1, 0), ("c",) * 4001)), False)

    def test_of_nets(self):
        seen = 0
        for seed in range(60):
            net = net_at_random(seed)
            if still(net) is None and clash(net) is not None:
                one, n, other, m = clash(net)
                run = meeting(net, one, n, other, m)
                self.assertIs(holds(net, Clash(one, other, run)), True)
                self.assertIs(holds(net, Clash(other, one, run)), True)
                self.assertIs(holds(net, Clash(one, one, run)), False)
                seen += 1
        self.assertGreater(seen, 20)


class Wrongs(Case):
    ROWS = (("fetch", "cpu", 0), ("step", "dev"), ("step", "dev"), ("step", "dev"), ("step", "cpu"), ("step", "cpu"))

    def test_fill(self):
        for whole in (True, False):
            self.assertIs(holds(FILL, Wrong(self.ROWS, True, whole)), True)
            self.assertIs(holds(FILL, Wrong(self.ROWS, False, whole)), False)
        for k in range(len(self.ROWS)):
            self.assertIs(holds(FILL, Wrong(self.ROWS[:k] + self.ROWS[k + 1:], True, True)), False)
            self.assertIs(holds(FILL, Wrong(self.ROWS[:k], True, True)), False)
        self.assertIs(holds(FILL, Wrong(list(self.ROWS), True, True)), False)
        self.assertIs(holds(FILL, Wrong((*self.ROWS, ("step", "cpu")), True, True)), False)
        self.assertIs(holds(FILL, Wrong((*self.ROWS, ("discard", "cpu", 0)), True, True)), False)
        for value in (1, 0, None, "True", (True,)):
            self.assertIs(holds(FILL, Wrong(self.ROWS, value, True)), False)
            self.assertIs(holds(FILL, Wrong(self.ROWS, True, value)), False)

    def test_a_last_read_that_is_right(self):
        """An earlier read is wrong, the last one is not."""
        net = FILL.with_agents(FILL.agents[0], Back(
            "cpu", ("wait", "full"), ("read", "buf", 0, 0, 1), ("get", "buf", 0, 0, 1), ("get", "buf", 0, 0, 0),
            ("read", "buf", 0, 1, 1), ("post", "empty")))
        rows = self.ROWS
        for right, more in ((True, False), (False, True), (False, True), (True, False), (False, True)):
            self.assertIs(holds(net, Wrong(rows, True, True)), right)
            rows = (*rows, ("step", "cpu"))

    def test_how_many_rows(self):
        net = FILL + Variable("z", 1, 8) + Agent("o", ("write", "z", 0, 0, 0))
        idle = (("step", "o"),)
        self.assertIs(holds(net, Wrong(idle * 3994 + self.ROWS, True, True)), True)
        self.assertIs(holds(net, Wrong(idle * 3995 + self.ROWS, True, True)), False)

    def test_how_many_deeds(self):
        """Two deeds of each cache, all on one line."""
        steps = [("wait", "full"), ("read", "buf", 0, 0, 1), ("post", "empty")]
        net = Net(Variable("buf", 2, 0), Variable("z", 1, 8), *FILL.signals, FILL.agents[0], Back("cpu", *steps),
                  Through("o", ("read", "z", 0, 0, 0)), line=4)
        fetch, out = ("fetch", "cpu", 0), ("discard", "cpu", 0)
        behind = self.ROWS[1:]
        for rows, true in (
                ((fetch,), True), ((fetch, out, fetch), False), ((("fetch", "o", 0), fetch), True),
                ((("fetch", "o", 2), fetch), False), ((("fetch", "o", 0), ("discard", "o", 0), fetch), True),
                ((("fetch", "o", 0), ("discard", "o", 0), ("fetch", "o", 0), fetch), False),
                ((("fetch", "o", 1), fetch), False), ((("fetch", "cpu", 1), fetch), False)):
            self.assertIs(holds(net, Wrong(rows + behind, True, True)), true, rows)
        # Without any deed: with a calm cache the second read finds the first copy.
        twice = self.ROWS[1:] + (("step", "cpu"),) + self.ROWS[1:]
        self.assertIs(holds(net, Wrong(twice, False, True)), True)
        self.assertIs(holds(net, Wrong(self.ROWS[1:], False, True)), False)
        self.assertIs(holds(net, Wrong((("fetch", "cpu", 0), *twice), False, True)), False)

    def test_by_seed(self):
        """Runs that are drawn, held against the plain machine."""
        seen = []
        for maker in MAKERS:
            for seed in range(40):
                net, manner = maker(seed), MANNERS[seed % 4]
                rows, _ = drawn_rows(net, seed, 40, **manner)
                for k in range(1, len(rows) + 1):
                    machine, deeds = PlainMachine(net, **manner), []
                    for row in rows[:k]:
                        before = len(machine.wrong)
                        if row[0] == "step":
                            machine.step(row[1])
                        else:
                            machine.deed(*row)
                            deeds.append(row)
                    names = [row[1] for row in deeds]
                    true = len(machine.wrong) > before and len({row[2] for row in deeds}) < 2
                    true = true and all(names.count(name) < 3 for name in names)
                    self.assertIs(holds(net, Wrong(rows[:k], **manner)), true)
                    seen.append(true)
        self.assertGreater(seen.count(True), 15)


class Rights(Case):
    NET = FILL.with_agents(FILL.agents[0], Back(
        "cpu", ("wait", "full"), ("drop", "buf", 0, 0, 1), ("read", "buf", 0, 0, 1), ("post", "empty")))
    STEPS = ((0, 0), (0, 1), (0, 2), (1, 0), (1, 1), (1, 2), (1, 3))
    THERE = ((0, 2), (1, 0))
    HERE = ((1, 3), (0, 0))

    def test_by_hand(self):
        for manner in MANNERS:
            values = (manner["eager"], manner["whole"])
            self.assertIs(holds(self.NET, Right(self.STEPS, (self.THERE, self.HERE), *values)), True)
            self.assertIs(holds(self.NET, Right(self.STEPS, (self.HERE, self.THERE), *values)), True)
            self.assertIs(holds(self.NET, Right(self.STEPS, (self.THERE, self.HERE, self.THERE), *values)), True)
            for ways in ((), (self.THERE,), (self.HERE,), [self.THERE, self.HERE], (self.THERE, list(self.HERE)),
                         (self.THERE, self.THERE), (self.THERE, self.HERE, None), (self.THERE, self.HERE, ()),
                         (self.THERE, self.HERE, ((0, 0), (0, 1))), (self.THERE, self.HERE, ((0, 0), (1, 0)))):
                self.assertIs(holds(self.NET, Right(self.STEPS, ways, *values)), False, ways)

    def test_longer_ways(self):
        """Ways that begin earlier and end later tell less; once more round the ring they tell too little."""
        longer = ((0, 1), (0, 2), (1, 0), (1, 1))
        self.assertIs(holds(self.NET, Right(self.STEPS, (longer, self.HERE), True, True)), True)
        behind = ((0, 1), (0, 2), (1, 0), (1, 1), (1, 2))
        self.assertIs(holds(self.NET, Right(self.STEPS, (behind, self.HERE), True, True)), False)
        round_once = (*self.THERE, (1, 1), (1, 2), (1, 3), (0, 0), (0, 1), (0, 2), (1, 0))
        self.assertEqual(sum_of(self.NET, round_once), 1)
        self.assertIs(holds(self.NET, Right(self.STEPS, (round_once, self.HERE), True, True)), False)

    def test_steps(self):
        ways = (self.THERE, self.HERE)
        seen = []
        for steps in itertools.permutations(self.STEPS):
            at = {place: k for k, place in enumerate(steps)}
            true = all(at[a] < at[b] for a, b in (((0, 0), (0, 1)), ((0, 1), (0, 2)), ((0, 2), (1, 0)),
                                                 ((1, 0), (1, 1)), ((1, 1), (1, 2)), ((1, 2), (1, 3))))
            if true or random.Random(repr(steps)).random() < 0.05:
                self.assertIs(holds(self.NET, Right(steps, ways, True, True)), true)
                seen.append(true)
        self.assertEqual(seen.count(True), 1)
        for k in range(len(self.STEPS)):
            less = self.STEPS[:k] + self.STEPS[k + 1:]
            for steps in (less, (*self.STEPS, self.STEPS[k]), less + ((True, 0),), (*self.STEPS, None),
                          self.STEPS[:k] + (None,) + self.STEPS[k + 1:], self.STEPS[:k] + ([0, 0],) + self.STEPS[k + 1:],
                          self.STEPS[:k] + (self.STEPS[k - 1],) + self.STEPS[k + 1:]):
                self.assertIs(holds(self.NET, Right(steps, ways, True, True)), False, steps)
        self.assertIs(holds(self.NET, Right(list(self.STEPS), ways, True, True)), False)
        self.assertIs(holds(self.NET, Right((), ways, True, True)), False)

    def test_tokens_and_the_row(self):
        """Only neighbours with sum 0 need stand behind: here the second agent may come first."""
        net = Net(X, Signal("s", 1), Agent("a", READ, ("post", "s")), Agent("b", ("wait", "s"), READ))
        for steps in (((1, 0), (1, 1), (0, 0), (0, 1)), ((0, 0), (0, 1), (1, 0), (1, 1)), ((0, 0), (1, 0), (0, 1), (1, 1))):
            self.assertIs(holds(net, Right(steps, (), True, True)), True)
        self.assertIs(holds(net, Right(((1, 1), (1, 0), (0, 0), (0, 1)), (), True, True)), False)
        none = Net(X, Signal("s"), *net.agents)
        self.assertIs(holds(none, Right(((1, 0), (1, 1), (0, 0), (0, 1)), (), True, True)), False)

    def test_manners(self):
        steps = (("drop", "buf", 0, 0, 1), ("wait", "full"), ("read", "buf", 0, 0, 1), ("post", "empty"))
        net = FILL.with_agents(FILL.agents[0], Back("cpu", *steps))
        row = ((1, 0), *self.STEPS[:3], (1, 1), (1, 2), (1, 3))
        ways = (((0, 2), (1, 1)), self.HERE)
        for whole in (True, False):
            self.assertIs(holds(net, Right(row, ways, False, whole)), True)
            self.assertIs(holds(net, Right(row, ways, True, whole)), False)
            for value in (0, 1, None, "x", ()):
                self.assertIs(holds(net, Right(row, ways, value, whole)), False)
                self.assertIs(holds(net, Right(row, ways, False, value)), False)

    def test_without_agents(self):
        for net in (Net(), Net(X)):
            self.assertIs(holds(net, Right((), (), True, False)), True)
            self.assertIs(holds(net, Right(((0, 0),), (), True, False)), False)
            self.assertIs(holds(net, Right((), ((),), True, False)), False)
            self.assertIs(holds(net, Still(())), False)
            self.assertIs(holds(net, Wrong((), True, True)), False)

    def test_unordered_accesses(self):
        """Nobody reads: there is no fault, but a clash."""
        net = Net(X, Agent("a", WRITE), Agent("b", WRITE))
        self.assertIs(holds(net, Right(((0, 0), (1, 0)), (), True, True)), False)
        self.assertIs(holds(net, Clash((0, 0), (1, 0), ())), True)
        slots = Net(Variable("x", 1, 0, 1), Signal("s"), Signal("t", 2), Agent(
            "a", ("wait", "t"), ("write", "x", 0, 0, 0), ("post", "s")), Agent(
            "b", ("wait", "s"), ("write", "x", 0, 0, 0), ("post", "t")), ring=2)
        steps, ways = ((0, 0), (0, 1), (0, 2), (1, 0), (1, 1), (1, 2)), (((0, 2), (1, 0)), ((1, 2), (0, 0)))
        self.assertIs(holds(slots, Right(steps, ways, True, True)), True)
        three = Net(Variable("x", 1, 0, 1), Signal("s"), Signal("t", 3), *slots.agents, ring=2)
        self.assertIs(holds(three, Right(steps, ways, True, True)), False)

    def plain(self, net, finding):
        """[32] worked out by looking at all pairs of instances in some rounds, for fields of the right form."""
        at = {place: k for k, place in enumerate(finding.steps)}
        if len(finding.steps) != len(at) or set(at) != set(net.places()):
            return False
        if any(more == 0 and at[one] >= at[other] for one, other, more in pairs_of(net)):
            return False
        try:
            known = Known(net, *finding.ways)
        except NoWay:
            return False
        for one, other in itertools.combinations(net.accesses(), 2):
            words = {net.step(one)[0], net.step(other)[0]}
            if one[0] != other[0] and words & {"write", "put"}:
                for n in range(net.ring):
                    for m in range(n - 14, n + 15):
                        if set(net.touched(one, n)) & set(net.touched(other, m)):
                            if not known.ahead(one, n, other, m) and not known.ahead(other, m, one, n):
                                return False
        return Plain(net, known, finding.eager, finding.whole).faults() == []

    def test_by_seed(self):
        seen = []
        for maker in MAKERS:
            for seed in range(60):
                net, manner, chance = maker(seed), MANNERS[seed % 4], random.Random(seed)
                found = judge(net, **manner)
                if not found:
                    continue
                rows = [way(net, one, other) for one in net.places() for other in net.places() if one[0] != other[0]]
                rows = [row for row in rows if row is not None]
                for _ in range(4):
                    ways = list(found.ways)
                    for _ in range(chance.randint(0, 2)):
                        if rows:
                            ways.append(chance.choice(rows))
                    if ways and chance.random() < 0.5:
                        ways[chance.randrange(len(ways))] = chance.choice(rows)
                    chance.shuffle(ways)
                    steps = list(found.steps)
                    if chance.random() < 0.3:
                        k, j = chance.randrange(len(steps)), chance.randrange(len(steps))
                        steps[k], steps[j] = steps[j], steps[k]
                    finding = Right(tuple(steps), tuple(ways), **chance.choice(MANNERS))
                    true = self.plain(net, finding)
                    self.assertIs(holds(net, finding), true, (maker, seed, finding.ways))
                    seen.append(true)
        self.assertGreater(min(seen.count(True), seen.count(False)), 40)

    def test_nothing_else_holds(self):
        """[4]: no drawn run of a net with a Right that holds is a Clash or a Wrong of it."""
        for seed in range(20):
            net, manner = net_in_turn(seed), MANNERS[seed % 4]
            if judge(net, **manner):
                rows, _ = drawn_rows(net, seed, 30, **manner)
                names = tuple(row[1] for row in rows if row[0] == "step")
                for k in range(len(rows) + 1):
                    self.assertIs(holds(net, Wrong(rows[:k], **manner)), False)
                for k in range(0, len(names), 5):
                    for one, other in itertools.combinations(net.accesses(), 2):
                        self.assertIs(holds(net, Clash(one, other, names[:k])), False)


if __name__ == "__main__":
    unittest.main()
