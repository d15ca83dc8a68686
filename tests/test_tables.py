"""[40]: none_table and holds_none."""

import copy
import random
import unittest

from drawn_nets import MANNERS, net_at_random, net_in_pairs, net_in_turn
from helpers import ANY, Case
from plain_logs import PlainLine, lines_of_log, plain_holds_none, states_ahead
from test_logs import A, LOGS, N, changed, on, short_run
from unkeptlines.agents import Agent, Back, Through
from unkeptlines.errors import NoRun, TooMany
from unkeptlines.logs import explained, holds_none, log_of, none_table
from unkeptlines.nets import Net
from unkeptlines.variables import Variable

MAKERS = (net_in_turn, net_at_random, net_in_pairs)
X = Variable("x", 1, 0)
LOG = LOGS[2]
E0, E1 = ((None,), (None,)), ((None,), (((None,), (False,)),))
D0, D1, D2 = ((None,), (((A,), (True,)),)), ((A,), (((A,), (False,)),)), ((A,), (None,))
TABLE = (0, ((E0, E1), (D0, D1, D2), (D1, D2)))


def logs_without_a_run(makers, seeds, most=10):
    """(net, log, manner) for logs that no machine can have made."""
    for maker in makers:
        for seed in seeds:
            net, manner = maker(seed), MANNERS[seed % 4]
            log = changed(log_of(net, short_run(net, seed, most=most, **manner), **manner), seed, net)
            try:
                if log is not None and explained(net, log, **manner)[0] == "none":
                    yield net, log, manner
            except TooMany:
                continue


class NoneTable(Case):
    def test_example(self):
        table = none_table(N, LOG)
        self.assertEqual((table[0], [set(states) for states in table[1]]), (0, [set(states) for states in TABLE[1]]))
        self.assertIs(holds_none(N, LOG, table), True)
        self.assertEqual(none_table(net=N, log=LOG, eager=True, whole=True, most=3), table)
        for log in LOGS[:2]:
            self.assertIsNone(none_table(N, log))

    def test_by_seed(self):
        seen = 0
        for net, log, manner in logs_without_a_run(MAKERS, range(60)):
            table = none_table(net, log, **manner)
            word, k, line = explained(net, log, **manner)
            self.assertEqual((word, type(table), len(table)), ("none", tuple, 2))
            self.assertEqual((table[0], type(table[1]), len(table[1])), (line, tuple, k + 1))
            self.assertIs(holds_none(net, log, table, **manner), True)
            self.assertIs(plain_holds_none(net, log, table, **manner), True)
            seen += 1
        self.assertGreater(seen, 60)

    def test_none_for_what_can_be(self):
        for maker in MAKERS:
            for seed in range(30):
                net, manner = maker(seed), MANNERS[seed % 4]
                log = log_of(net, short_run(net, seed, most=10, **manner), **manner)
                try:
                    self.assertIsNone(none_table(net, log, **manner))
                except TooMany:
                    continue

    def test_errors(self):
        self.raises(TooMany, {"most": 2}, none_table, N, LOG, most=2)
        self.raises(TooMany, {"most": 1}, none_table, N, LOGS[0], most=1)
        for bad in ANY:
            if bad != ():
                self.raises(NoRun, {"row": 0}, none_table, N, bad)
                self.raises(NoRun, {"row": 0}, none_table, N, bad, eager=False, whole=False, most=1)
            self.raises(NoRun, {"row": 3}, none_table, N, (*LOG, bad))


class HoldsNone(Case):
    def test_example(self):
        self.assertIs(holds_none(N, LOG, TABLE), True)
        self.assertIs(holds_none(net=N, log=LOG, table=TABLE, eager=True, whole=True), True)
        sets = TABLE[1]
        for j in range(3):
            for k in range(len(sets[j])):
                less = sets[:j] + (sets[j][:k] + sets[j][k + 1:],) + sets[j + 1:]
                self.assertIs(holds_none(N, LOG, (0, less)), False, (j, k))
            # In any order, and one twice.
            for states in (sets[j][::-1], sets[j] * 2):
                self.assertIs(holds_none(N, LOG, (0, sets[:j] + (states,) + sets[j + 1:])), True)

    def test_more_states_than_can_occur(self):
        other = ("zz", 5, 5)
        free, held = ((other,), (None,)), ((other,), (((other,), (False,)),))
        marked = ((None,), (((other,), (True,)),))
        self.assertIs(holds_none(N, LOG, (0, ((E0, E1, free, held), *TABLE[1][1:]))), False)
        # Behind row 0 such a state has the value of the write in the cache.
        taken = ((other,), (((A,), (True,)),))
        self.assertIs(holds_none(N, LOG, (0, ((E0, E1, free), (*TABLE[1][1], taken), TABLE[1][2]))), False)
        self.assertIs(holds_none(N, LOG, (0, ((E0, E1, free, held), (*TABLE[1][1], taken), TABLE[1][2]))), True)
        self.assertIs(holds_none(N, LOG, (0, (TABLE[1][0], (*TABLE[1][1], free, held), TABLE[1][2]))), True)
        # A mark leads on to a state that is written back.
        self.assertIs(holds_none(N, LOG, (0, ((E0, E1, marked), *TABLE[1][1:]))), False)
        more = (*TABLE[1][1], taken)
        self.assertIs(holds_none(N, LOG, (0, ((E0, E1, marked, free, held), more, TABLE[1][2]))), True)
        self.assertIs(holds_none(N, LOG, (0, ((E0, E1, marked), more, TABLE[1][2]))), False)
        # In the last set no state may return what the log tells.
        self.assertIs(holds_none(N, LOG, (0, TABLE[1][:2] + ((D1, D2, E0, E1),))), False)
        self.assertIs(holds_none(N, LOG, (0, TABLE[1][:2] + ((D1, D2, free, held),))), True)

    def test_the_last_row(self):
        """It is a read of the line; here row 0 is a write and row 1 returns what some state has."""
        sets = TABLE[1]
        self.assertIs(holds_none(N, LOG, (0, sets[:1])), False)
        self.assertIs(holds_none(N, LOG, (0, sets[:2])), False)
        self.assertIs(holds_none(N, LOG, (0, ())), False)
        self.assertIs(holds_none(N, LOG, (0, (*sets, (D1, D2)))), False)
        self.assertIs(holds_none(N, (*LOG, ("b", (A,))), TABLE), True)
        self.assertIs(holds_none(N, (*LOG, ("a", None)), TABLE), True)
        self.assertIs(holds_none(N, LOG[:2], (0, sets[:2])), False)
        # A read of another line is none of this one.
        net = Net(X, Variable("y", 1, 1), Agent("p", on("read"), on("read", "y")), line=1)
        log = (("p", (A,)), ("p", (A,)))
        empty = ((None,), ())
        self.assertIs(holds_none(net, log, (0, ((empty,),))), True)
        self.assertIs(holds_none(net, log, (0, ((empty,), (empty,)))), False)
        self.assertIs(holds_none(net, log, (1, ((empty,),))), False)
        self.assertIs(holds_none(net, log, (1, ((empty,), (empty,)))), True)

    def test_a_row_of_another_line_changes_nothing(self):
        net = Net(X, Variable("y", 1, 1), Agent("p", on("write", "y"), on("read")), line=1)
        log, empty, other = (("p", None), ("p", (A,))), ((None,), ()), ((A,), ())
        self.assertIs(holds_none(net, log, (0, ((empty,), (empty,)))), True)
        self.assertIs(holds_none(net, log, (0, ((empty,), ()))), False)
        self.assertIs(holds_none(net, log, (0, ((empty,), (empty, other)))), False)
        self.assertIs(holds_none(net, log, (0, ((other,), (empty,)))), False)

    def test_manners(self):
        """An eager cache fetches; a table for calm ones need not have these states."""
        sets = (((E0,), (D0, D1, D2), (D1, D2)))
        self.assertIs(holds_none(N, LOG, (0, sets), eager=False), True)
        self.assertIs(holds_none(N, LOG, (0, sets)), False)
        self.assertIs(holds_none(N, LOG, TABLE, eager=False), True)
        net = Net(Variable("x", 2, 0), Back("a", ("write", "x", 0, 0, 0)), Agent("b", ("write", "x", 0, 1, 1)), Agent(
            "c", ("read", "x", 0, 0, 1)), line=2)
        log = (("a", None), ("b", None), ("c", (A, None)))
        table = none_table(net, log, whole=False)
        self.assertIs(holds_none(net, log, table, whole=False), True)
        self.assertIs(holds_none(net, log, table, whole=True), False)
        self.assertIs(holds_none(net, log, table), False)

    def test_the_form_of_a_table(self):
        for bad in ANY + [[0, TABLE[1]], (0,), (0, TABLE[1], 0), (0, list(TABLE[1])), (False, TABLE[1]), (1, TABLE[1]),
                          (-1, TABLE[1]), ("0", TABLE[1]), (None, TABLE[1]), (10 ** 90, TABLE[1]), ((0,), TABLE[1]),
                          (0, TABLE[1][0]), (0, TABLE), {0: TABLE[1]}, (0, {0: (E0,)}), (0, "abc"), (0, (None,) * 3)]:
            before = copy.deepcopy(bad)
            self.assertIs(holds_none(N, LOG, bad), False, bad)
            self.assertEqual(bad, before)

    def test_the_form_of_a_state(self):
        """A state more that is none: such a table does not hold, wherever it stands."""
        bad_states = [
            (), (None,), ((None,),), ((None,), (None,), ()), ([None], (None,)), ((None,), [None]), ((), (None,)),
            ((None, None), (None,)), ((None,), ()), ((None,), (None, None)), ((0,), (None,)), ((False,), (None,)),
            (("a",), (None,)), ((("a", 0),), (None,)), ((("a", 0, -1),), (None,)), ((("a", True, 0),), (None,)),
            (((0, 0, 0),), (None,)), ((["a", 0, 0],), (None,)), ((None,), ((),)), ((None,), (((None,),),)),
            ((None,), (((None,), (False,), ()),)), ((None,), (((None,), (0,)),)), ((None,), (((None,), (None,)),)),
            ((None,), (((None,), ()),)), ((None,), (((None,), (False, False)),)), ((None,), (((), (False,)),)),
            ((None,), (((None, None), (False,)),)), ((None,), (([None], (False,)),)), ((None,), (((None,), [False]),)),
            ((None,), (([(None,), (False,)]),)), ((None,), (False,)), ((None,), ("",)), ((None,), (0,)),
            ((None,), ((("a",), (False,)),)), "ab", ("a", "b"), {}, [E0], [(None,), (None,)]]
        for bad in bad_states + [value for value in ANY]:
            for j in range(3):
                states = TABLE[1][j] + (bad,)
                self.assertIs(holds_none(N, LOG, (0, TABLE[1][:j] + (states,) + TABLE[1][j + 1:])), False, bad)
                states = (bad,) + TABLE[1][j]
                self.assertIs(holds_none(N, LOG, (0, TABLE[1][:j] + (states,) + TABLE[1][j + 1:])), False, bad)
        for j in range(3):
            self.assertIs(holds_none(N, LOG, (0, TABLE[1][:j] + (list(TABLE[1][j]),) + TABLE[1][j + 1:])), False)

    def test_states_of_another_size(self):
        """All conditions are met but for the number of bytes or of marks."""
        for bad in (((A,), (((A,), (False, False)),)), ((A,), (((A,), ()),)), ((A,), (((A, A), (False,)),)),
                    ((A, A), (None,))):
            for more in ((), (((A, A), (((A, A), (False,)),)),), (((A, A), (((A, A), (False, False)),)),)):
                self.assertIs(holds_none(N, LOG, (0, (*TABLE[1][:2], (D1, D2, bad, *more)))), False)
                self.assertIs(holds_none(N, LOG, (0, (*TABLE[1][:2], (D1, D2, bad, *more))), eager=False), False)
        net = Net(X, Agent("p", on("read")), line=1)
        log, empty = (("p", (A,)),), ((None,), ())
        self.assertIs(holds_none(net, log, (0, ((empty, ((D2[0][0][:2] + (7,),), ())),))), True)
        for bad in (((None, None), ()), ((), ()), ((None,), (None,)), ((None, A), ())):
            self.assertIs(holds_none(net, log, (0, ((empty, bad),))), False)

    def test_a_last_set_without_states(self):
        """It is of a read of the line all the same."""
        net = Net(X, Variable("y", 1, 1), Agent("p", on("read"), on("write"), on("read", "y"), on("read")), line=1)
        log, empty = (("p", (A,)), ("p", None), ("p", (None,)), ("p", (A,))), ((None,), ())
        for many, true in ((1, True), (2, False), (3, False), (4, True)):
            sets = ((empty,),) + ((),) * (many - 1)
            self.assertIs(holds_none(net, log, (0, sets)), true, many)
        self.assertIs(holds_none(net, log, (0, ((empty,), (), (), (empty,)))), True)
        self.assertIs(holds_none(net, log, (0, ((empty,), (), (empty,), ()))), False)

    def test_through_marks_nothing(self):
        net = Net(X, Through("a", on("write")), Agent("b", on("read")), line=1)
        log = (("a", None), ("b", (None,)))
        table = none_table(net, log)
        self.assertIs(holds_none(net, log, table), True)
        for j in (0, 1):
            states = table[1][j] + (((A,), (((A,), (True,)),)),)
            self.assertIs(holds_none(net, log, (0, table[1][:j] + (states,) + table[1][j + 1:])), False)
        back = net.with_agents(Back("a", on("write")), net.agents[1])
        full = ((E0, E1, ((None,), (((A,), (True,)),)), D1, D2), (D0, D1, D2))
        self.assertEqual(explained(back, log)[0], "run")
        self.assertIs(holds_none(back, log, (0, full)), False)

    def test_by_seed(self):
        """Tables with a state less, more or otherwise, held against the four conditions."""
        seen = []
        for net, log, manner in logs_without_a_run(MAKERS, range(40), most=8):
            chance = random.Random(repr(log))
            line, sets = none_table(net, log, **manner)
            values = [None] + [value for _, got in log if got for value in got]
            for _ in range(12):
                rows = [list(states) for states in sets]
                for _ in range(chance.choice((1, 1, 2))):
                    self.spoil(chance, rows, values)
                other = line if chance.random() < 0.9 else chance.choice(lines_of_log(net, log))
                table = (other, tuple(tuple(row) for row in rows))
                if len(table[1]) and self.fits(net, log, table):
                    true = plain_holds_none(net, log, table, **manner)
                    self.assertIs(holds_none(net, log, table, **manner), true)
                    seen.append(true)
        self.assertGreater(min(seen.count(True), seen.count(False)), 100)

    def fits(self, net, log, table):
        """Whether the states have as many copies as the line has caches."""
        many = len(PlainLine(net, log, table[0], True, True).caches)
        return all(len(copies) == many for states in table[1] for _, copies in states)

    def spoil(self, chance, rows, values):
        """Changes a table a little."""
        row = chance.choice(rows)
        way = chance.randrange(6)
        if way == 0 and row:
            row.pop(chance.randrange(len(row)))
        elif way == 1:
            chance.shuffle(row)
        elif way == 2 and row:
            row.append(chance.choice(row))
        elif way == 3:
            row.extend(chance.choice(rows))
        elif way == 4 and row:
            memory, copies = chance.choice(row)
            memory = list(memory)
            memory[chance.randrange(len(memory))] = chance.choice(values)
            row.append((tuple(memory), copies))
        elif len(rows) > 1:
            rows.pop()

    def test_what_holds_has_no_run(self):
        """A log with a table that holds cannot have been made: each log of a run has none, whatever is tried."""
        for maker in MAKERS:
            for seed in range(15):
                net, manner = maker(seed), MANNERS[seed % 4]
                log = log_of(net, short_run(net, seed, most=8, **manner), **manner)
                for line in lines_of_log(net, log):
                    sets = [tuple(states) for states in states_ahead(net, log, line, **manner)]
                    if max(len(states) for states in sets) < 300:
                        for many in range(1, len(log) + 1):
                            self.assertIs(holds_none(net, log, (line, tuple(sets[:many])), **manner), False)

    def test_wrong_logs(self):
        for bad in ANY:
            if bad != ():
                self.raises(NoRun, {"row": 0}, holds_none, N, bad, TABLE)
                self.raises(NoRun, {"row": 0}, holds_none, N, bad, None, eager=False)
            self.raises(NoRun, {"row": 3}, holds_none, N, (*LOG, bad), TABLE)

    def test_changes_nothing(self):
        before = copy.deepcopy((N, LOG, TABLE))
        holds_none(N, LOG, TABLE)
        none_table(N, LOG)
        self.assertEqual((N, LOG, TABLE), before)


if __name__ == "__main__":
    unittest.main()
