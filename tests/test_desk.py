"""[43] and [44]: the desk."""

import random
import unittest

from drawn_nets import MANNERS, net_at_random, net_in_pairs, net_in_turn
from helpers import ANY, Case
from test_laying import S, THREE
from test_texts import ROWS, SMALL
from test_thirds import N
from unkeptlines.agents import Agent, Back
from unkeptlines.clashes import clash
from unkeptlines.desk import Desk
from unkeptlines.dues import due
from unkeptlines.errors import (
    Clashes, NoLaying, NoMend, NoName, NoNet, NoPart, NoRow, NoStep, NoText, Stands, TooMany, UnkeptError)
from unkeptlines.faults import faults
from unkeptlines.flushes import flushed, mended
from unkeptlines.judge import judge
from unkeptlines.laying import laid, pads
from unkeptlines.nets import Net
from unkeptlines.orders import Order
from unkeptlines.signals import Signal
from unkeptlines.texts import net_text
from unkeptlines.thirds import thirds
from unkeptlines.variables import Variable
from unkeptlines.ways import lag, still

MAKERS = (net_in_turn, net_at_random, net_in_pairs)
CALLS = {"": {}, " calm": {"eager": False}, " changed": {"whole": False}, " calm changed": {"eager": False, "whole": False}}
X = Variable("x", 1, 0)
CLASHING = Net(X, Agent("a", ("write", "x", 0, 0, 0)), Agent("b", ("read", "x", 0, 0, 0)))
STANDS = Net(X, Signal("s"), Agent("a", ("wait", "s"), ("post", "s"), ("write", "x", 0, 0, 0)), Agent("b", ("read", "x", 0, 0, 0)))


def row_of(net):
    return "net " + net_text(net).replace("\n", " / ")


def desk_with(net):
    desk = Desk()
    desk.say(row_of(net))
    return desk


class Desks(Case):
    def refused(self, desk, text, kind=NoRow, **fields):
        """The row raises this error and changes nothing."""
        before = desk.current
        error = self.raises(kind, fields, desk.say, text)
        self.assertIs(desk.current, before)
        return error

    def test_example(self):
        desk = Desk()
        self.assertEqual(desk.say(
            "net line 4 / ring 1 / var b 1 0 / signal s 1 / back c ; wait s ; write b 0 0 0 ; read b 0 0 0 ; post s"), "ok")
        self.assertEqual([desk.say(row) for row in ("judge", "due c.2 0", "lag c.2 c.1", "mend calm")],
                         ["right", "c.1@0", "1", "flushes 0"])
        self.refused(desk, "judge  calm")

    def test_at_first(self):
        desk = Desk()
        self.assertEqual(desk.current, Net())
        for row, told in (("show", "line 8 / ring 1"), ("undo", "nothing"), ("judge", "right"), ("pads", "0"),
                          ("third", "none"), ("fault", "none"), ("flush", "ok"), ("mend", "flushes 0"), ("lay", "pads 0"),
                          ("line 16", "ok"), ("show", "line 16 / ring 1")):
            self.assertEqual(desk.say(row), told, row)
        self.assertEqual(Desk().current, Net())

    def test_by_name(self):
        self.assertEqual(Desk().say(row="show"), "line 8 / ring 1")

    def test_beside_the_functions(self):
        """All rows beside what they stand for, on nets of all kinds."""
        for maker in MAKERS:
            for seed in range(40):
                net = maker(seed)
                desk = Desk()
                self.assertEqual(desk.say(row_of(net)), "ok")
                self.assertEqual(desk.current, net)
                self.assertEqual(desk.say("show"), net_text(net).replace("\n", " / "))
                self.asks(desk, net, random.Random(seed))
                self.changes(net)
                self.assertEqual(desk.current, net)

    def same(self, desk, row, call):
        """The row answers what the call returns, or raises the same error with the same fields."""
        try:
            told = call()
        except UnkeptError as error:
            fields = vars(error)
            if type(error) in (Stands, Clashes):
                fields = {}
            self.refused(desk, row, type(error), **fields)
            return None
        self.assertEqual(desk.say(row), told, row)
        return told

    def asks(self, desk, net, chance):
        names = [agent.name for agent in net.agents]

        def written(place):
            return f"{names[place[0]]}.{place[1]}"

        def first_fault(**manner):
            if judge(net).word in ("still", "clash"):
                mended(net)
            rows = [f"{written(one.place)} {one.round} {one.address} {one.word}" for one in faults(net, Order(net), **manner)]
            return (rows + ["none"])[0]

        def first_third():
            rows = [f"{written(one[0])}@{one[1]} {written(one[2])}@{one[3]} {one[4]} {one[5]}" for one in thirds(net)]
            return (rows + ["none"])[0]

        def due_text(place, n):
            return " ".join("-" if one is None else f"{written(one[0])}@{one[1]}" for one in due(net, place, n))

        for words, manner in CALLS.items():
            self.same(desk, "judge" + words, lambda: judge(net, **manner).word)
            self.same(desk, "fault" + words, lambda: first_fault(**manner))
        self.same(desk, "third", first_third)
        self.same(desk, "pads", lambda: str(pads(net)))
        places = list(net.places())
        for _ in range(6):
            one, other = chance.choice(places), chance.choice(places)
            least = lag(net, one, other).rounds
            self.assertEqual(desk.say(f"lag {written(one)} {written(other)}"), "none" if least is None else str(least))
            n = chance.choice((0, 1, 2, 7, 1000))
            self.same(desk, f"due {written(one)} {n}", lambda: due_text(one, n))

    def changes(self, net):
        for words, manner in CALLS.items():
            desk = desk_with(net)
            told = self.same(desk, "mend" + words, lambda: "flushes " + str(
                sum(len(one) for one in mended(net, **manner).agents) - sum(len(one) for one in net.agents)))
            self.assertEqual(desk.current, net if told is None else mended(net, **manner))
        desk = desk_with(net)
        if self.same(desk, "flush", lambda: "ok" if flushed(net) else "ok"):
            self.assertEqual(desk.current, flushed(net))
        desk = desk_with(net)
        if self.same(desk, "lay", lambda: f"pads {pads(laid(net))}"):
            self.assertEqual(desk.current, laid(net))
        for line in (1, 2, 4, 8, 16):
            desk = desk_with(net)
            self.assertEqual(desk.say(f"line {line}"), "ok")
            self.assertEqual(desk.current, net.with_line(line))

    def test_judge(self):
        for net, words in ((STANDS, ["still"] * 4), (CLASHING, ["clash"] * 4), (N, ["wrong", "wrong", "right", "right"]),
                           (SMALL, ["right"] * 4)):
            desk = desk_with(net)
            self.assertEqual([desk.say("judge" + manner) for manner in CALLS], words)

    def test_fault(self):
        desk = desk_with(N)
        self.assertEqual(desk.say("fault"), "c.2 0 0 spoilt")
        self.assertEqual(desk.say("fault changed"), "none")
        self.refused(desk_with(CLASHING), "fault", Clashes)
        self.refused(desk_with(STANDS), "fault calm", Stands)
        self.assertEqual(desk.say("third"), "n.1@0 e.0@0 0 1")

    def test_due(self):
        net = Net(Variable("x", 3, 0), Back("a", ("write", "x", 0, 1, 1), ("read", "x", 0, 0, 2), ("write", "x", 0, 0, 0)))
        desk = desk_with(net)
        self.assertEqual(desk.say("due a.1 0"), "- a.0@0 -")
        self.assertEqual(desk.say("due a.1 1"), "a.2@0 a.0@1 -")
        self.assertEqual(desk.say("due a.1 1000"), "a.2@999 a.0@1000 -")

    def test_steps(self):
        desk = desk_with(N)
        self.assertEqual(desk.say("steps e ; clean d 0 0 0 ; put d 0 0 0"), "ok")
        self.assertEqual(desk.current.agents[2], Back("e", ("clean", "d", 0, 0, 0), ("put", "d", 0, 0, 0)))
        self.assertEqual(desk.current.agents[:2], N.agents[:2])
        self.assertEqual(desk.say("third"), "none")
        for row, reason, place in (
                ("steps n ; wait empty ; get a 0 0 0 ; post full", "step", 1), ("steps e" + " ; read d 0 0 0" * 25, "steps", None),
                ("steps e ; read d 4 0 0", "step", 0), ("steps e ; read d 0 1 0", "step", 0)):
            self.refused(desk, row, NoPart, reason=reason, place=place)
        for row, reason, place in (
                ("steps e ; read z 0 0 0", "step", (2, 0)), ("steps e ; read d 0 1 1", "step", (2, 0)),
                ("steps e ; wait z", "step", (2, 0)), ("steps n ; wait empty ; write a 0 0 0", "signal", 2),
                ("steps e ; wait full", "signal", 2)):
            self.refused(desk, row, NoNet, reason=reason, place=place)
        for name in ("z", "a", "full", "steps"):
            self.refused(desk, f"steps {name} ; read d 0 0 0", NoName, name=name)
        for row in ("steps", "steps e", "steps e ;", "steps e ; ", "steps ; read d 0 0 0", "steps e read d 0 0 0",
                    "steps e ; read d 0 0", "steps e ; read d 0 0 00", "steps E ; read d 0 0 0", "steps e1 ; wait z",
                    "steps e ; wait z ;", "steps  e ; wait z", "steps e ; ; wait z", "steps e ; wait z ", "steps z",
                    "steps abcdefghi ; wait z", "steps e ; wait 0", "steps e.0 ; wait z", "steps e / wait z"):
            self.refused(desk, row)

    def test_line(self):
        desk = desk_with(N)
        for number in ("0", "3", "32", "9999"):
            self.refused(desk, f"line {number}", NoNet, reason="line", place=None)
        for row in ("line", "line ", "line 08", "line 10000", "line x", "line 8 8", "line 8 ", "line -1", "line  8", " line 8"):
            self.refused(desk, row)

    def test_undo(self):
        desk = Desk()
        nets = [desk.current]
        for row in (row_of(N), "line 4", "flush", "lay", row_of(SMALL), "mend", "line 8", "flush", "steps c ; get b 0 0 0",
                    row_of(S), "lay", "mend"):
            try:
                desk.say(row)
            except UnkeptError:
                self.assertIs(desk.current, nets[-1])
                continue
            nets.append(desk.current)
        self.assertEqual(len(nets), 12)
        self.assertEqual(nets[1], nets[2])
        while len(nets) > 1:
            self.assertIs(desk.current, nets.pop())
            self.assertEqual(desk.say("undo"), "ok")
            self.assertEqual(desk.current, nets[-1])
        self.assertEqual([desk.say("undo"), desk.say("undo"), desk.current], ["nothing", "nothing", Net()])

    def test_undo_is_no_change(self):
        """What is done behind an undo is taken back first, then what was done ahead of it."""
        desk = Desk()
        for row in ("line 1", "line 2", "line 4", "undo", "undo", "line 16", "undo"):
            self.assertEqual(desk.say(row), "ok")
        self.assertEqual(desk.current.line, 1)
        self.assertEqual(desk.say("undo"), "ok")
        self.assertEqual((desk.current.line, desk.say("undo")), (8, "nothing"))

    def test_asking_is_no_change(self):
        desk = desk_with(N)
        for row in ("show", "judge", "fault", "lag n.0 c.0", "third", "pads", "judge calm changed"):
            desk.say(row)
        for row in ("judge x", "due c.2 5000", "line 3", "net", "mend"):
            with self.assertRaises(UnkeptError):
                desk.say(row)
        self.assertEqual((desk.say("undo"), desk.current), ("ok", Net()))

    def test_net(self):
        desk = desk_with(SMALL)
        self.assertEqual(desk.say("net " + " / ".join(ROWS)), "ok")
        for rows, k in (("", 0), (" ", 0), ("line 8", 1), ("line 8 ", 0), ("line 8 / ring 1 /", 1), ("line 8 / ring 1 / ", 2),
                        ("line 8 /", 0), ("/", 0), ("/ line 8", 0), (" / line 8", 0), ("line 8  / ring 1", 0),
                        ("line 8 /  ring 1", 1), ("line 8/ring 1", 0), ("line 8 / / ring 1", 1), ("line 8 ring 1", 0),
                        ("line 8\nring 1", 0), ("line 8 / ring 1\nvar b 1 0", 1), ("line 8 / ring 1 / var b 1 0\n", 2),
                        ("line 8 / ring 1\n/ var b 1 0", 1), ("line 8 / ring 1 / var b 1 0 ", 2),
                        ("line 8 / ring 1 / / var b 1 0", 2), ("line\t8 / ring 1", 0), ("net line 8 / ring 1", 0)):
            self.refused(desk, "net " + rows, NoText, row=k)
        self.refused(desk, "net line 3 / ring 1", NoNet, reason="line", place=None)
        self.refused(desk, "net line 8 / ring 1 / var b 9 0", NoPart, reason="size", place=None)
        for row in ("net", "net\nline 8 / ring 1", " net line 8 / ring 1", "Net line 8 / ring 1", "net\t"):
            self.refused(desk, row)

    def test_rows_that_are_none(self):
        desk = desk_with(SMALL)
        for bad in ANY + ["-", "", " ", "\n", "show\n", "show ", " show", "show\nshow", "Show", "shows", "show show", "undo ",
                          "undo undo", "undo 1", "flush x", "flush ", "lay 8", "lay ", "pads 0", "third 0", "third ", "mend lay",
                          "judge\tcalm", "/", ";", "net/", "ok", "clash", "say show", "show / show", "current"]:
            self.refused(desk, bad)
        for word in ("judge", "fault", "mend"):
            for manner in (" changed calm", " calm calm", " changed changed", " calm changed calm", " eager", " whole", " ",
                           " calm ", "  calm", " calm  changed", " Calm", " calm,changed", " calm changed changed", " 0"):
                self.refused(desk, word + manner)
        self.refused(desk, ["show"])
        self.refused(desk, ("show",))

    def test_words_of_lag_and_due(self):
        desk = desk_with(SMALL)
        for word in ("c", "c.", ".0", "c.x", "c.00", "c.01", "c.10000", "C.0", "c.0.", "c.0.0", "c 0", "c.-1", "c. 0", "0.c",
                     "abcdefghi.0", "c1.0", "", ".", "c.0,", "c:0", "c.0@0", "c.1 "):
            for row in (f"lag {word} c.0", f"lag c.0 {word}", f"due {word} 0"):
                self.refused(desk, row)
        for word in ("", "1001", "9999", "00", "01", "10000", "-1", "x", "0 0", "c.1", "1.", " 0"):
            self.refused(desk, f"due c.1 {word}")
        for row in ("lag", "lag c.0", "lag c.0 c.1 c.2", "due", "due c.1", "due c.1 0 0", "due 0 c.1"):
            self.refused(desk, row)
        self.assertEqual(desk.say("due c.1 1000"), "-")

    def test_names_and_steps(self):
        """Word by word from the left: first the name of a place, then its step."""
        desk = desk_with(N)
        for row, kind, fields in (
                ("lag z.0 n.0", NoName, {"name": "z"}), ("lag n.0 z.0", NoName, {"name": "z"}),
                ("lag z.9 y.0", NoName, {"name": "z"}), ("lag n.9 z.0", NoStep, {"place": (0, 9)}),
                ("lag z.0 n.9", NoName, {"name": "z"}), ("lag n.3 c.9999", NoStep, {"place": (0, 3)}),
                ("lag n.0 c.4", NoStep, {"place": (1, 4)}), ("lag full.0 n.0", NoName, {"name": "full"}),
                ("lag a.0 n.0", NoName, {"name": "a"}), ("due z.0 0", NoName, {"name": "z"}),
                ("due d.99 0", NoName, {"name": "d"}), ("due c.4 0", NoStep, {"place": (1, 4)}),
                ("due c.9999 0", NoStep, {"place": (1, 9999)}), ("due c.0 0", NoStep, {"place": (1, 0)}),
                ("due c.1 7", NoStep, {"place": (1, 1)}), ("due n.1 0", NoStep, {"place": (0, 1)})):
            self.refused(desk, row, kind, **fields)
        # A word that is not of its form goes ahead of all names.
        for row in ("lag z.0 n.00", "lag z.0 n", "due z.0 1001", "due z.99 x", "steps z ; wait", "steps z ; fetch d 0 0 0"):
            self.refused(desk, row)
        for net in (STANDS, CLASHING):
            desk = desk_with(net)
            self.refused(desk, "due z.0 0", NoName, name="z")
            self.refused(desk, "due a.9 0", NoStep, place=(0, 9))
            self.refused(desk, "due a.0 0", NoStep, place=(0, 0))
            self.refused(desk, "due b.0 0", Stands if net is STANDS else Clashes)

    def test_a_ring_has_lags(self):
        """lag raises no Stands and no Clashes."""
        self.assertEqual(desk_with(STANDS).say("lag a.0 a.0"), "0")
        self.assertEqual(desk_with(STANDS).say("lag a.0 b.0"), "none")
        self.assertEqual(desk_with(CLASHING).say("lag a.0 a.0"), "1")

    def test_errors_of_the_functions(self):
        for word in ("mend", "lay", "third", "fault"):
            self.refused(desk_with(STANDS), word, Stands)
            error = self.refused(desk_with(CLASHING), word, Clashes)
            self.assertEqual({error.one, error.other}, {(0, 0), (1, 0)})
        self.refused(desk_with(N), "mend", NoMend, third=((0, 1), 0, (2, 0), 0, 0, 1))
        self.refused(desk_with(N), "mend calm", NoMend, third=((0, 1), 0, (2, 0), 0, 0, 1))
        self.refused(desk_with(THREE), "lay", NoLaying, variable="s", slot=0)
        many = desk_with(Net(X, Back("a", *[("read", "x", 0, 0, 0)] * 9)))
        self.refused(many, "flush", TooMany, most=24)
        self.refused(many, "mend changed", TooMany, most=24)
        self.refused(many, "net line 8 / ring 1 / var x 1 0 / back a" + " ; read x 0 0 0" * 25, NoPart, reason="steps", place=None)

    def test_flushes_and_pads(self):
        desk = desk_with(N)
        self.assertEqual([desk.say(row) for row in ("pads", "lay", "mend", "judge", "pads", "undo", "undo", "judge")],
                         ["0", "pads 3", "flushes 0", "right", "3", "ok", "ok", "wrong"])
        self.assertEqual(desk.say("mend changed"), "flushes 0")
        net = Net(X, Signal("f"), Signal("g", 1), Back("a", ("wait", "g"), ("write", "x", 0, 0, 0), ("post", "f")),
                  Back("b", ("wait", "f"), ("read", "x", 0, 0, 0), ("post", "g")))
        desk = desk_with(net)
        self.assertEqual([desk.say(row) for row in ("judge", "mend", "judge", "mend calm", "undo", "undo", "flush", "judge")],
                         ["wrong", "flushes 2", "right", "flushes 0", "ok", "ok", "ok", "right"])
        self.assertEqual(sum(len(agent) for agent in desk.current.agents), 10)

    def test_two_desks(self):
        one, other = Desk(), Desk()
        one.say("line 1")
        self.assertEqual((one.current.line, other.current.line, other.say("undo")), (1, 8, "nothing"))

    def test_one_behind_another(self):
        """Rows that are drawn, on one desk; what raises changes nothing, and undo takes each change back."""
        chance = random.Random(3)
        pool = [net for maker in MAKERS for net in (maker(seed) for seed in range(60))
                if still(net) is None and clash(net) is None]
        desk, nets = Desk(), [Net()]
        for _ in range(400):
            row = chance.choice((row_of(chance.choice(pool)), "line " + str(chance.choice((1, 2, 4, 8, 16, 3))), "flush",
                                 "mend", "mend calm changed", "lay", "undo", "undo", "show", "judge", "undo "))
            before = desk.current
            try:
                told = desk.say(row)
            except UnkeptError:
                self.assertIs(desk.current, before)
                continue
            if row == "undo":
                self.assertEqual(told, "ok" if len(nets) > 1 else "nothing")
                nets = nets[:-1] or nets
            elif row not in ("show", "judge"):
                nets.append(desk.current)
            self.assertEqual(desk.current, nets[-1])

    def test_manners(self):
        for words, manner in CALLS.items():
            full = {"eager": True, "whole": True, **manner}
            self.assertIn(full, MANNERS)
            net = Net(X, Signal("full"), Signal("empty", 1), Agent("n", ("wait", "empty"), ("write", "x", 0, 0, 0), ("post", "full")),
                      Back("c", ("flush", "x", 0, 0, 0), ("wait", "full"), ("read", "x", 0, 0, 0), ("post", "empty")))
            self.assertEqual(desk_with(net).say("judge" + words), "wrong" if full["eager"] else "right")


if __name__ == "__main__":
    unittest.main()
