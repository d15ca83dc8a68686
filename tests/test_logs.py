"""[38] and [39]: logs, log_of and explained."""

import copy
import random
import unittest

from drawn_nets import MANNERS, net_at_random, net_in_pairs, net_in_turn
from helpers import ANY, FILL, Case
from plain_logs import lines_of_log, plain_explained, states_ahead
from plain_machine import PlainMachine, drawn_rows
from unkeptlines.agents import Agent, Back, Through
from unkeptlines.errors import NoRun, TooMany
from unkeptlines.judge import judge
from unkeptlines.logs import explained, holds_none, log_of, none_table
from unkeptlines.nets import Net
from unkeptlines.runs import play
from unkeptlines.signals import Signal
from unkeptlines.variables import Variable

MAKERS = (net_in_turn, net_at_random, net_in_pairs)
X = Variable("x", 1, 0)
N = Net(X, Back("a", ("write", "x", 0, 0, 0)), Agent("b", ("read", "x", 0, 0, 0)), line=1)
A = ("a", 0, 0)
LOGS = ((("a", None), ("b", (None,))), (("a", None), ("b", (A,))), (("a", None), ("b", (A,)), ("b", (None,))))


def on(word, name="x"):
    return (word, name, 0, 0, 0)


def short_run(net, seed, most=40, eager=True, whole=True):
    """Rows with at most so many steps that can be done."""
    rows, _ = drawn_rows(net, seed, 150, eager, whole)
    found, steps = [], 0
    for row in rows:
        steps += row[0] == "step"
        if steps > most:
            break
        found.append(row)
    return tuple(found)


def changed(log, seed, net):
    """The log with another value in a read or two; None if there is no read."""
    chance = random.Random(seed)
    values = [None] + [value for _, got in log if got for value in got]
    values += [(agent.name, s, n) for agent in net.agents for s in range(len(agent)) for n in (0, 1)]
    rows = list(log)
    reads = [k for k, (_, got) in enumerate(rows) if got]
    for k in chance.sample(reads, min(len(reads), chance.randint(1, 2))):
        got = list(rows[k][1])
        got[chance.randrange(len(got))] = chance.choice(values)
        rows[k] = (rows[k][0], tuple(got))
    return tuple(rows) if reads else None


class LogOf(Case):
    def test_by_seed(self):
        for maker in MAKERS:
            for seed in range(40):
                net = maker(seed)
                for manner in MANNERS:
                    rows = short_run(net, seed, **manner)
                    plain, log = PlainMachine(net, **manner), []
                    for row in rows:
                        if row[0] == "step":
                            log.append((row[1], plain.step(row[1])))
                        else:
                            plain.deed(*row)
                    self.assertEqual(log_of(net, rows, **manner), tuple(log))
                    self.assertEqual(log_of(net, list(rows), **manner), tuple(log))

    def test_by_hand(self):
        rows = (("fetch", "cpu", 0), ("step", "dev"), ("step", "dev"), ("step", "dev"), ("step", "cpu"), ("step", "cpu"))
        told = (("dev", None), ("dev", None), ("dev", None), ("cpu", None), ("cpu", (None, None)))
        self.assertEqual(log_of(net=FILL, rows=rows, eager=True, whole=True), told)
        self.assertEqual(log_of(FILL, rows[1:], eager=False)[-1], ("cpu", (("dev", 1, 0), ("dev", 1, 0))))
        self.assertEqual(log_of(FILL, ()), ())
        self.assertEqual(log_of(N, [("step", "a"), ("write_back", "a", 0), ("step", "b")]), LOGS[1])

    def test_manners(self):
        net = Net(Variable("x", 2, 0), Back("a", ("write", "x", 0, 0, 0)), Agent("b", ("write", "x", 0, 1, 1)), Agent(
            "c", ("read", "x", 0, 0, 1)), line=2)
        rows = (("step", "a"), ("step", "b"), ("write_back", "a", 0), ("step", "c"))
        self.assertEqual(log_of(net, rows)[-1], ("c", (A, None)))
        self.assertEqual(log_of(net, rows, whole=False)[-1], ("c", (A, ("b", 0, 0))))
        self.raises(NoRun, {"row": 0}, log_of, net, (("fetch", "a", 0),), eager=False)

    def test_how_many(self):
        rows = (("step", "b"), ("fetch", "a", 0), ("discard", "a", 0)) * 40
        self.assertEqual(log_of(N, rows), (("b", (None,)),) * 40)
        self.raises(TooMany, {"most": 40}, log_of, N, (*rows, ("step", "b")))
        self.raises(NoRun, {"row": 121}, log_of, N, (*rows, ("step", "b"), None))
        self.raises(NoRun, {"row": 0}, log_of, N, (("step", "b"),) * 4001)

    def test_wrong_rows(self):
        for bad in ANY:
            if bad not in ((), []):
                self.raises(NoRun, {"row": 0}, log_of, N, bad)
            self.raises(NoRun, {"row": 1}, log_of, N, (("step", "a"), bad))


class Forms(Case):
    """The rows that are no rows of a log."""

    NET = Net(Variable("x", 3, 0), Signal("s"),
              Back("a", ("write", "x", 0, 0, 2), ("read", "x", 0, 0, 1), ("get", "x", 0, 2, 2), ("clean", "x", 0, 0, 0)),
              Agent("p", ("wait", "s"), ("read", "x", 0, 1, 1)), Agent("q", ("post", "s")))

    def refused(self, k, log):
        for call in (explained, none_table, lambda net, log: holds_none(net, log, None), lambda net, log: explained(
                net, log, eager=False, whole=False, most=1)):
            self.raises(NoRun, {"row": k}, call, self.NET, log)

    def taken(self, log):
        for manner in MANNERS:
            self.assertIn(explained(self.NET, log, **manner)[0], ("run", "none"))

    def test_no_tuple(self):
        for bad in ANY:
            if bad != ():
                self.refused(0, bad)
        self.refused(0, [("q", None)])
        self.assertEqual(explained(self.NET, ()), ("run", ()))
        self.assertIsNone(none_table(self.NET, ()))
        self.assertIs(holds_none(self.NET, (), (0, ((),))), False)

    def test_how_many(self):
        self.taken((("q", None),) * 40)
        self.refused(0, (("q", None),) * 41)
        self.refused(0, (None,) * 41)
        self.refused(39, (("q", None),) * 39 + (None,))

    def test_rows(self):
        good = (("q", None), ("a", None))
        for bad in ANY + [("a",), ("a", None, None), ["a", None], ("x", None), ("s", None), ("b", None), (None, None),
                          (["a"], None), (True, None), (0, None), ("", None), "qa", ("q", ()), ("q", (None,)),
                          ("q", False), ("q", 0), ("q", [])]:
            before = copy.deepcopy(bad)
            self.refused(2, (*good, bad, None))
            self.refused(0, (bad, *good))
            self.assertEqual(bad, before)

    def test_values(self):
        ahead = (("a", None),)
        for got in ((None, None), (("a", 0, 0), None), (("zz zz", 10 ** 90, 3), ("", 0, 0)), (("x", 0, 0),) * 2):
            self.taken((*ahead, ("a", got)))
        for got in [None, (), (None,), (None,) * 3, [None, None], (None, 0), (None, False), (("a", 0), None),
                    (("a", 0, 0, 0), None), (["a", 0, 0], None), (("a", -1, 0), None), (("a", 0, -1), None),
                    ((None, 0, 0), None), ((0, 0, 0), None), (("a", True, 0), None), (("a", 0, False), None),
                    (("a", "0", 0), None), (("a", None, None), None), "ab", {0: None, 1: None}, {}, True, 0, 2]:
            self.refused(1, (*ahead, ("a", got), None))
        # How many bytes a step reads is told by the step that is next.
        self.refused(2, (*ahead, ("a", (None, None)), ("a", (None, None))))
        self.taken((*ahead, ("a", (None, None)), ("a", (None,)), ("a", None)))
        self.refused(3, (*ahead, ("a", (None, None)), ("a", (None,)), ("a", (None,))))
        self.refused(0, (("a", (None, None)),))

    def test_steps_that_cannot_be_done(self):
        self.refused(0, (("p", None),))
        self.taken((("q", None), ("p", None), ("p", (None,))))
        self.refused(3, (("q", None), ("p", None), ("p", (None,)), ("p", None), None))
        self.refused(1, (("q", None), None, ("p", None)))
        # Which values were returned plays no part: here no machine can have done row 2.
        self.refused(3, (("q", None), ("p", None), ("p", (("q", 0, 0),)), ("p", None)))

    def test_ahead_of_too_many(self):
        log = (("a", None), ("a", (None, None)), ("a", (None,)), None)
        self.raises(TooMany, {"most": 1}, explained, self.NET, log[:3], most=1)
        self.raises(NoRun, {"row": 3}, explained, self.NET, log, most=1)
        self.raises(NoRun, {"row": 3}, none_table, self.NET, log, most=1)


class Explained(Case):
    def check(self, net, log, most=500, **manner):
        """Holds explained against the plain search and plays its run; the word of the answer."""
        plain = plain_explained(net, log, manner["eager"], manner["whole"], most)
        if plain == ("many",):
            self.raises(TooMany, {"most": most}, explained, net, log, most=most, **manner)
            return "many"
        told = explained(net, log, most=most, **manner)
        self.assertIs(type(told), tuple)
        if plain == ("run",):
            self.assertEqual((told[0], len(told)), ("run", 2))
            self.assertIs(type(told[1]), tuple)
            self.assertLessEqual(len(told[1]), 4000)
            self.assertEqual(log_of(net, told[1], **manner), log)
        else:
            self.assertEqual(told, plain)
        return told[0]

    def test_examples(self):
        self.assertEqual(explained(N, LOGS[0]), ("run", (("step", "a"), ("step", "b"))))
        self.assertEqual(explained(N, LOGS[1]), ("run", (("step", "a"), ("write_back", "a", 0), ("step", "b"))))
        self.assertEqual(explained(net=N, log=LOGS[2], eager=True, whole=True, most=3), ("none", 2, 0))
        self.raises(TooMany, {"most": 2}, explained, N, LOGS[2], most=2)
        for manner in MANNERS:
            self.assertEqual([self.check(N, log, **manner) for log in LOGS], ["run", "run", "none"])

    def test_runs_of_all_manners(self):
        seen = []
        for maker in MAKERS:
            for seed in range(50):
                net, manner = maker(seed), MANNERS[seed % 4]
                log = log_of(net, short_run(net, seed, most=14, **manner), **manner)
                seen.append(self.check(net, log, **manner))
        self.assertNotIn("none", seen)
        self.assertGreater(seen.count("run"), 100)

    def test_other_values(self):
        seen = []
        for maker in MAKERS:
            for seed in range(60):
                net, manner = maker(seed), MANNERS[seed % 4]
                log = log_of(net, short_run(net, seed, most=10, **manner), **manner)
                for more in (0, 1000, 2000):
                    other = changed(log, seed + more, net)
                    if other is not None:
                        seen.append(self.check(net, other, **manner))
        self.assertGreater(min(seen.count("run"), seen.count("none")), 30)

    def test_in_another_manner(self):
        """What an eager machine did, or one that writes changed bytes only, no other machine need be able to do."""
        words = []
        for seed in range(60):
            net = net_at_random(seed)
            log = log_of(net, short_run(net, seed, most=20))
            for manner in MANNERS:
                words.append(self.check(net, log, **manner))
        self.assertIn("none", words)

    def test_eager_and_whole_count(self):
        """Only an eager cache can have fetched the line too early; only one that writes whole lines back spoils."""
        log = (("dev", None), ("dev", None), ("dev", None), ("cpu", None), ("cpu", (None, None)))
        self.assertEqual(explained(FILL, log)[0], "run")
        self.assertEqual(explained(FILL, log, eager=False), ("none", 4, 0))
        net = Net(Variable("x", 2, 0), Back("a", ("write", "x", 0, 0, 0)), Agent("b", ("write", "x", 0, 1, 1)), Agent(
            "c", ("read", "x", 0, 0, 1)), line=2)
        log = (("a", None), ("b", None), ("c", (A, None)))
        self.assertEqual(explained(net, log)[0], "run")
        self.assertEqual(explained(net, log, whole=False), ("none", 2, 0))

    def test_how_many_states(self):
        """Exactly at the limit, and one more; each k below the number of rows counts, up to that of the result."""
        for maker in MAKERS:
            for seed in range(24):
                net, manner = maker(seed), MANNERS[seed % 4]
                log = log_of(net, short_run(net, seed, most=8, **manner), **manner)
                logs = [one for one in (log, changed(log, seed, net)) if one]
                for one in logs:
                    sizes = [len(states) for line in lines_of_log(net, one)
                             for states in states_ahead(net, one, line, manner["eager"], manner["whole"])[:len(one)]]
                    for most in {max(sizes, default=1), max(1, max(sizes, default=1) - 1), min(sizes, default=1), 1}:
                        if 1 <= most <= 2000:
                            self.check(net, one, most=most, **manner)

    def test_limits(self):
        self.assertEqual(explained(N, LOGS[2], most=3), ("none", 2, 0))
        self.assertEqual(explained(N, LOGS[2], most=2000), ("none", 2, 0))
        self.raises(TooMany, {"most": 1}, explained, N, LOGS[0], most=1)
        # One state alone: caches that are calm, and that nobody has used.
        plain = Net(X, Agent("b", on("read")), Agent("c", on("write")))
        self.assertEqual(explained(plain, (("b", (None,)), ("c", None)), most=1)[0], "run")
        self.assertEqual(explained(plain, (("c", None), ("b", (None,))), most=1), ("none", 1, 0))
        # Behind the last row nobody counts: here there would be three.
        self.assertEqual(explained(N, (("a", None),), most=2)[0], "run")
        self.assertEqual(explained(N, (("a", None),), eager=False, most=1)[0], "run")
        self.raises(TooMany, {"most": 2}, explained, N, (("a", None), ("b", (None,))), most=2)
        self.raises(TooMany, {"most": 2}, none_table, N, LOGS[2], most=2)

    def test_the_limit_by_default(self):
        """Four caches that have seen several values: more than 500 states, but no more than 2000."""
        net = Net(X, *[Back(name, on("read")) for name in "abc"], Agent("w", on("write")), line=1)
        log = (("a", (None,)), ("b", (None,)), ("c", (None,)), *[("w", None)] * 7, ("a", (None,)))
        sizes = [len(states) for states in states_ahead(net, log, 0, True, True)[:len(log)]]
        self.assertTrue(500 < max(sizes) <= 2000)
        self.raises(TooMany, {"most": 500}, explained, net, log)
        self.raises(TooMany, {"most": 500}, none_table, net, log)
        self.assertEqual(explained(net, log, most=max(sizes))[0], "run")
        self.raises(TooMany, {"most": max(sizes) - 1}, explained, net, log, most=max(sizes) - 1)
        short = [k for k, size in enumerate(sizes) if size <= 500][-1] + 1
        self.assertEqual(explained(net, log[:short])[0], "run")

    def test_states_behind_the_result_do_not_count(self):
        wide = Net(X, Variable("y", 1, 8), Agent("p", on("read")), Back("a", on("write", "y"), on("read", "y")), Back(
            "b", on("write", "y")), line=1)
        bad = ("p", (("b", 0, 0),))
        log = (bad, ("a", None), ("b", None), ("a", (A,)))
        self.assertEqual(explained(wide, log, most=4), ("none", 0, 0))
        self.raises(TooMany, {"most": 3}, explained, wide, log, most=3)
        self.raises(TooMany, {"most": 4}, explained, wide, (*log[1:], bad), most=4)

    def test_the_first_row_and_the_least_line(self):
        net = Net(Variable("x", 4, 0), Agent("p", ("read", "x", 0, 0, 3), ("read", "x", 0, 1, 1)), Agent(
            "q", ("write", "x", 0, 0, 3)), line=2)
        ever = ("r", 7, 7)
        for got, line in (((None, None, ever, None), 1), ((None, ever, None, ever), 0), ((ever, None, None, None), 0),
                          ((None, None, None, ever), 1)):
            self.assertEqual(explained(net, (("p", got), ("p", (ever,)))), ("none", 0, line))
        self.assertEqual(explained(net, (("p", (None,) * 4), ("q", None), ("p", (None,)))), ("none", 2, 0))
        self.assertEqual(explained(net, (("p", (None,) * 4), ("p", (ever,)), ("p", (ever,) * 4))), ("none", 1, 0))

    def test_a_step_on_two_lines(self):
        """Each line by itself: one can have been fetched early and the other late."""
        net = Net(Variable("x", 2, 1), Back("c", ("read", "x", 0, 0, 1)), Agent("w", ("write", "x", 0, 0, 1)), line=2)
        w = ("w", 0, 0)
        for got in ((None, None), (w, None), (None, w), (w, w)):
            log = (("w", None), ("c", got))
            told = explained(net, log)
            self.assertEqual(log_of(net, told[1]), log)
            fetched = [line for line, value in zip((0, 1), got) if value is None]
            self.assertEqual([row[2] for row in told[1] if row[0] == "fetch"], fetched)
            self.assertEqual(explained(net, log, eager=False)[0], "run" if got == (w, w) else "none")
        self.assertEqual(explained(net, (("w", None), ("c", (None, w))), eager=False), ("none", 1, 0))
        self.assertEqual(explained(net, (("w", None), ("c", (w, None))), eager=False), ("none", 1, 1))

    def test_the_caches_of_a_line(self):
        """Those of agents that do a step on it in the log: a get counts, a step that is not done does not."""
        net = Net(X, Variable("y", 1, 1), Through("t", on("get"), on("read", "y")), Back("b", on("read", "y"), on("write")),
                  Agent("p", on("read")), line=1)
        log = (("p", (None,)), ("t", (None,)), ("b", (None,)))
        # Line 0 has the cache of t alone, line 1 that of b alone: two states each.
        self.assertEqual(explained(net, log, most=2)[0], "run")
        self.raises(TooMany, {"most": 1}, explained, net, log, most=1)
        self.raises(TooMany, {"most": 3}, explained, net, (*log, ("b", None)), most=3)
        self.assertEqual(explained(net, (*log, ("b", None)), most=4)[0], "run")
        self.assertEqual(explained(net, (("p", (None,)),), most=1)[0], "run")

    def test_no_lines(self):
        net = Net(Signal("s"), Back("a", ("post", "s")), Agent("b", ("wait", "s")))
        log = (("a", None), ("a", None), ("b", None))
        self.assertEqual(explained(net, log, most=1), ("run", (("step", "a"), ("step", "a"), ("step", "b"))))
        self.assertIsNone(none_table(net, log))
        self.assertIs(holds_none(net, log, (0, ((),))), False)

    def test_wrong_runs(self):
        """The log of a wrong run is explained, and the reads of a right net are what they should be."""
        seen = 0
        for seed in range(150):
            net, manner = net_in_pairs(seed), MANNERS[seed % 4]
            found = judge(net, **manner)
            if found.word == "wrong":
                rows = found.rows
                if sum(row[0] == "step" for row in rows) <= 40:
                    log = log_of(net, rows, **manner)
                    told = explained(net, log, **manner)
                    self.assertEqual(log_of(net, told[1], **manner), log)
                    self.assertTrue(play(net, told[1], **manner).wrong)
                    seen += 1
        self.assertGreater(seen, 3)

    def test_forty_rows(self):
        """Long logs on many lines: all rows of the run can be done."""
        seen = []
        for maker in MAKERS:
            for seed in range(12):
                net, manner = maker(seed).with_line(1), MANNERS[seed % 4]
                log = log_of(net, short_run(net, seed, **manner), **manner)
                try:
                    told = explained(net, log, most=2000, **manner)
                except TooMany:
                    continue
                self.assertEqual(log_of(net, told[1], **manner), log)
                seen.append(len(log))
        self.assertGreater(seen.count(40), 15)

    def test_changes_nothing(self):
        before = copy.deepcopy((N, LOGS))
        for log in LOGS:
            explained(N, log)
            none_table(N, log)
        self.assertEqual((N, LOGS), before)


if __name__ == "__main__":
    unittest.main()
