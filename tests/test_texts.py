"""[41] and [42]: net_text and read_net."""

import copy
import random
import re
import unittest

from drawn_nets import large_net, net_at_random, net_in_pairs, net_in_turn
from helpers import ANY, FILL, Case
from nets_by_seed import net_by_seed
from unkeptlines.agents import Agent, Back, Through
from unkeptlines.errors import NoNet, NoPart, NoText
from unkeptlines.nets import Net
from unkeptlines.signals import Signal
from unkeptlines.texts import net_text, read_net
from unkeptlines.variables import Variable

MAKERS = (net_in_turn, net_at_random, net_in_pairs, net_by_seed, large_net)
SMALL = Net(Variable("b", 1, 0), Signal("s", 1), Back("c", ("wait", "s"), ("read", "b", 0, 0, 0), ("post", "s")))
ROWS = ["line 8", "ring 1", "var b 1 0", "signal s 1", "back c ; wait s ; read b 0 0 0 ; post s"]
TEXT = "\n".join(ROWS)

NAME, NUMBER = "[a-z]{1,8}", "(0|[1-9][0-9]{0,3})"
STEP = f"((read|write|get|put|clean|drop|flush) {NAME} {NUMBER} {NUMBER} {NUMBER}|(post|wait) {NAME})"
FORMS = [f"line {NUMBER}", f"ring {NUMBER}", f"var {NAME} {NUMBER}( {NUMBER}){{1,4}}", f"signal {NAME} {NUMBER}",
         f"(plain|through|back) {NAME}( ; {STEP})+"]


def first_bad_row(text):
    """The index of the first row that is not of the form or cannot stand there; None if there is none."""
    latest = 0
    for k, row in enumerate(text.split("\n") + [None] * 2):
        if row is None:
            return k if k < 2 else None
        kinds = [kind for kind, form in enumerate(FORMS) if re.fullmatch(form, row)]
        if not kinds or kinds[0] < latest or (k < 2 and kinds[0] != k) or (k > 1 and kinds[0] < 2):
            return k
        latest = kinds[0]
    return None


class NetText(Case):
    def test_examples(self):
        self.assertEqual(net_text(SMALL), TEXT)
        self.assertEqual(net_text(net=Net()), "line 8\nring 1")
        self.assertEqual(net_text(FILL).split("\n"), [
            "line 4", "ring 1", "var buf 2 0", "signal full 0", "signal empty 1",
            "plain dev ; wait empty ; write buf 0 0 1 ; post full", "back cpu ; wait full ; read buf 0 0 1 ; post empty"])

    def test_all_words(self):
        words = ("read", "write", "get", "put", "clean", "drop", "flush")
        net = Net(Through("t", *[(word, "x", 3, k % 8, 7) for k, word in enumerate(words)]), Variable("y", 1, 1023, 0),
                  Variable("x", 8, 100, 1000), line=16, ring=2)
        rows = ["line 16", "ring 2", "var y 1 1023 0", "var x 8 100 1000", "through t" + "".join(
            f" ; {word} x 3 {k} 7" for k, word in enumerate(words))]
        self.assertEqual(net_text(net), "\n".join(rows))
        self.assertEqual(read_net(net_text(net)), net)

    def test_the_order_of_the_net(self):
        net = Net(Agent("z", ("read", "y", 0, 0, 0)), Variable("y", 1, 9), Agent("a", ("read", "x", 0, 0, 0)), Variable("x", 1, 3))
        self.assertEqual(net_text(net).split("\n")[2:], [
            "var y 1 9", "var x 1 3", "plain z ; read y 0 0 0", "plain a ; read x 0 0 0"])

    def test_there_and_back(self):
        for maker in MAKERS:
            for seed in range(60):
                net = maker(seed)
                text = net_text(net)
                self.assertIsNone(first_bad_row(text))
                self.assertEqual(read_net(text), net)
                self.assertEqual(net_text(read_net(text)), text)
        for net in (Net(), Net(line=1, ring=4), Net(Variable("x", 8, 0, 8, 16, 24), ring=4)):
            self.assertEqual(read_net(text=net_text(net)), net)

    def test_words_as_names(self):
        net = Net(Variable("line", 1, 0), Variable("read", 2, 4), Signal("wait"), Signal("signal", 3),
                  Back("back", ("read", "read", 0, 0, 1), ("post", "wait"), ("wait", "signal")),
                  Agent("ring", ("wait", "wait"), ("write", "line", 0, 0, 0), ("post", "signal")),
                  Through("plain", ("flush", "read", 0, 0, 0)), Agent("var", ("read", "line", 0, 0, 0)))
        self.assertEqual(read_net(net_text(net)), net)
        self.assertIn("back back ; read read 0 0 1 ; post wait ; wait signal", net_text(net))

    def test_changes_nothing(self):
        before = copy.deepcopy(FILL)
        net_text(FILL)
        self.assertEqual(FILL, before)


class ReadNet(Case):
    def bad(self, row, text):
        self.assertEqual(first_bad_row(text), row, text)
        self.raises(NoText, {"row": row}, read_net, text)

    def with_row(self, k, row):
        return "\n".join(ROWS[:k] + [row] + ROWS[k + 1:])

    def test_examples(self):
        self.bad(2, "line 8\nring 1\nvar b 1 0 \n")
        self.bad(1, "line 8")
        self.raises(NoNet, {"reason": "line", "place": None}, read_net, "line 3\nring 1")
        self.assertEqual(read_net(TEXT), SMALL)
        self.assertEqual(read_net(text=TEXT), SMALL)

    def test_no_text(self):
        for bad in ANY:
            if not isinstance(bad, str):
                self.raises(NoText, {"row": 0}, read_net, bad)
            else:
                self.bad(0, bad)
        self.raises(NoText, {"row": 0}, read_net, ROWS)
        self.raises(NoText, {"row": 0}, read_net, tuple(ROWS))

    def test_line_and_ring(self):
        self.bad(0, "")
        self.bad(0, "\n")
        self.bad(0, "ring 1\nline 8")
        self.bad(1, "line 8\n")
        self.bad(1, "line 8\nline 8\nring 1")
        self.bad(2, "line 8\nring 1\n")
        self.bad(2, "line 8\nring 1\nring 1")
        self.bad(5, TEXT + "\n")
        self.bad(5, TEXT + "\n\n")
        self.bad(1, "line 8\nvar b 1 0")
        for bad in ("line", "line ", "line  8", " line 8", "line 8 ", "line 8 8", "line x", "Line 8", "line\t8", "line -8",
                    "line +8", "line 08", "line 8.", "line 00", "line 10000", "line 1 0", "lin 8", "lines 8", "line8"):
            self.bad(0, self.with_row(0, bad))
            self.bad(1, self.with_row(1, bad.replace("line", "ring")))

    def test_rows(self):
        for bad in ("", " ", "var b 1", "var b", "var", "var b 1 0 ", "var  b 1 0", " var b 1 0", "var b 1 0 1 2 3 4",
                    "var b 01 0", "var b 1 00", "var b 1 10000", "var b x 0", "var B 1 0", "var b1 1 0", "var bcdefghij 1 0",
                    "var b 1 0 ; read b 0 0 0", "vars b 1 0", "var b 1 -1", "var b 1, 0", "var b 1 0\t", "; read b 0 0 0",
                    "/", "var 1 b 0", "back", "line 8", "ring 1"):
            self.bad(2, self.with_row(2, bad))
        for bad in ("signal s", "signal", "signal s 1 ", "signal s  1", "signal s 1 1", "signal s 00", "signal S 1",
                    "signal s one", "signal s 00001", "signal 1 s", "signals s 1", "signal stuvwxyza 1", ""):
            self.bad(3, self.with_row(3, bad))
        for bad in ("back c", "back c ;", "back c ; ", "back ; wait s", "back c wait s", "back c ; wait s ;",
                    "back c ;; wait s", "back c ; ; wait s", "back c  ; wait s", "back c ; wait s ; ", "back c ; wait s 0",
                    "back c ; wait", "back c ; wait 0", "back c ; wait S", "back c ; waits s", "back c ; read b",
                    "back c ; read b 0 0", "back c ; read b 0 0 0 0", "back c ; read b 0 0 00", "back c ; read b 0 0 10000",
                    "back c ; read B 0 0 0", "back c ; read b 0 0 -1", "back c ; read b 0 0 x", "back c ; fetch b 0 0 0",
                    "back c ; post b 0 0 0", "back c ; Read b 0 0 0", "back c;wait s", "back c ; wait s; post s",
                    "Back c ; wait s", "agent c ; wait s", "back C ; wait s", "back cdefghijk ; wait s", "back c ; wait\ts",
                    "plain", "through c ", "back c ; step", "back c c ; wait s", "back ; c ; wait s", "var c ; wait s"):
            self.bad(4, self.with_row(4, bad))

    def test_the_order_of_rows(self):
        self.bad(3, "\n".join([*ROWS[:2], ROWS[3], ROWS[2], ROWS[4]]))
        self.bad(4, "\n".join([*ROWS[:3], ROWS[4], ROWS[3]]))
        self.bad(3, "\n".join([*ROWS[:2], ROWS[4], ROWS[2]]))
        self.bad(2, "\n".join([*ROWS[:2], "", ROWS[2]]))
        many = [*ROWS[:3], "var d 1 8", "var e 1 9", ROWS[3], "signal t 0", ROWS[4], "plain d ; read b 0 0 0"]
        self.assertIsNone(first_bad_row("\n".join(many)))
        self.bad(6, "\n".join(many[:6] + ["var f 1 10"] + many[6:]))

    def test_the_first_bad_row(self):
        self.bad(2, "line 8\nring 1\nvar\nsignal\n")
        self.bad(0, "line\nring\nvar")
        self.bad(3, "line 3\nring 9\nvar b 9 0\nsignal s")
        # The form of all rows is looked at before any part is made.
        self.bad(4, "\n".join(["line 3", "ring 9", "var b 0 2000", "signal s 9", "back c"]))

    def test_by_small_changes(self):
        """Texts of nets with a sign or a word changed, held against the forms written down as patterns."""
        chance = random.Random(5)
        seen = []
        for seed in range(100):
            text = net_text(net_at_random(seed))
            for _ in range(12):
                signs = list(text)
                k = chance.randrange(len(signs))
                way = chance.randrange(4)
                if way == 0:
                    del signs[k]
                elif way == 1:
                    signs.insert(k, chance.choice("0 1;ax\n.\t"))
                elif way == 2:
                    signs[k] = chance.choice("0 9;az\n")
                else:
                    rows = text.split("\n")
                    j = chance.randrange(len(rows))
                    rows.insert(chance.randrange(len(rows) + 1), rows.pop(j))
                    signs = list("\n".join(rows))
                other = "".join(signs)
                row = first_bad_row(other)
                seen.append(row is None)
                if row is not None:
                    self.raises(NoText, {"row": row}, read_net, other)
                else:
                    try:
                        self.assertEqual(net_text(read_net(other)), other)
                    except (NoPart, NoNet):
                        pass
        self.assertGreater(min(seen.count(True), seen.count(False)), 100)

    def test_parts_that_cannot_be_made(self):
        for k, row, reason, place in (
                (2, "var b 9 0", "size", None), (2, "var b 0 0", "size", None), (2, "var b 1 1024", "address", 0),
                (2, "var b 1 0 5 1024", "address", 2), (2, "var b 2 0 5 6", "bytes", 2), (3, "signal s 4", "tokens", None),
                (4, "plain c ; wait s ; get b 0 0 0 ; post s", "step", 1), (4, "back c ; wait s ; read b 4 0 0", "step", 1),
                (4, "back c ; read b 0 1 0", "step", 0), (4, "through c ; read b 0 0 8", "step", 0),
                (4, "back c" + " ; read b 0 0 0" * 25, "steps", None), (4, "plain c ; wait s ; clean b 0 0 0", "step", 1)):
            self.raises(NoPart, {"reason": reason, "place": place}, read_net, self.with_row(k, row))
        # In the order of the rows, and ahead of what is wrong with the net.
        self.raises(NoPart, {"reason": "size", "place": None}, read_net, "line 3\nring 9\nvar b 9 0\nsignal s 9")
        self.raises(NoPart, {"reason": "tokens", "place": None}, read_net,
                    "line 8\nring 1\nsignal s 9\nplain c ; get b 0 0 0")

    def test_nets_that_cannot_be_made(self):
        for k, row, reason, place in (
                (0, "line 0", "line", None), (0, "line 32", "line", None), (1, "ring 0", "ring", None),
                (1, "ring 5", "ring", None), (2, "var b 1 0 4", "slots", 0), (2, "var s 1 0", "name", 1),
                (2, "var d 1 0", "step", (0, 1)), (4, "back c ; read b 0 0 0", "signal", 1),
                (4, "back c ; wait s ; read b 0 1 1 ; post s", "step", (0, 1)), (4, "back c ; wait d", "step", (0, 0))):
            self.raises(NoNet, {"reason": reason, "place": place}, read_net, self.with_row(k, row))
        rows = ROWS[:2] + [f"var {name} 1 {k}" for k, name in enumerate("abcdefg")]
        self.raises(NoNet, {"reason": "many", "place": 6}, read_net, "\n".join(rows))
        self.raises(NoNet, {"reason": "bytes", "place": 1}, read_net, "line 8\nring 1\nvar a 2 0\nvar b 1 1")

    def test_numbers_of_four_digits(self):
        self.assertEqual(read_net("line 8\nring 1\nvar b 1 1023").variables[0].at, (1023,))
        self.raises(NoPart, {"reason": "address", "place": 0}, read_net, "line 8\nring 1\nvar b 1 9999")
        self.bad(2, "line 8\nring 1\nvar b 1 01023")
        self.bad(2, "line 8\nring 1\nvar b 1 10230")


if __name__ == "__main__":
    unittest.main()
