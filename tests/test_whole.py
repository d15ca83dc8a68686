"""[4] and the whole document once more: all parts of the program work together on one net after another."""

import unittest

from drawn_nets import MANNERS, large_net, net_at_random, net_in_pairs, net_in_turn
from helpers import FILL, Case
from test_laying import S
from test_thirds import N
from unkeptlines.checker import holds
from unkeptlines.desk import Desk
from unkeptlines.errors import NoLaying, NoMend, TooMany
from unkeptlines.findings import Clash, Right, Still, Wrong
from unkeptlines.flushes import mended
from unkeptlines.judge import judge
from unkeptlines.laying import laid, pads
from unkeptlines.logs import explained, holds_none, log_of, none_table
from unkeptlines.nets import Net
from unkeptlines.runs import play
from unkeptlines.texts import net_text, read_net
from unkeptlines.thirds import thirds

MAKERS = (net_in_turn, net_at_random, net_in_pairs)


def log_of_last_steps(net, rows, manner):
    """The log of a run, None if it is too long."""
    try:
        return log_of(net, rows, **manner)
    except TooMany:
        return None


class Whole(Case):
    def helped(self, net, manner):
        """A net that is right: mended, or laid and mended; None if that cannot be."""
        try:
            return mended(net, **manner)
        except TooMany:
            return None
        except NoMend as error:
            self.assertEqual(error.third, list(thirds(net))[0])
            self.assertIs(manner["whole"], True)
        try:
            other = laid(net)
        except NoLaying as error:
            self.assertIn(error.variable, net)
            return None
        self.assertEqual(list(thirds(other)), [])
        self.assertGreaterEqual(pads(other), 0)
        return self.helped(other, manner)

    def run_through(self, net, manner):
        """Judges a net, explains its wrong run, helps it and judges it again; the words on the way."""
        found = judge(net, **manner)
        self.assertIs(holds(net, found), True)
        words = [found.word]
        if found.word in ("still", "clash"):
            return words
        if found.word == "wrong":
            self.assertTrue(play(net, found.rows, **manner).wrong)
            log = log_of_last_steps(net, found.rows, manner)
            if log is not None:
                told = explained(net, log, most=2000, **manner)
                self.assertEqual(log_of(net, told[1], **manner), log)
                self.assertIsNone(none_table(net, log, most=2000, **manner))
                self.assertTrue(play(net, told[1], **manner).wrong)
                words.append("explained")
        other = self.helped(net, manner)
        if other is not None:
            again = read_net(net_text(other))
            self.assertEqual(again, other)
            right = judge(again, **manner)
            self.assertIs(type(right), Right)
            self.assertIs(holds(again, right), True)
            self.assertEqual(other == net, found.word == "right")
            words.append("helped")
        return words

    def test_all_nets(self):
        seen = []
        for maker in MAKERS:
            for seed in range(50):
                for manner in MANNERS:
                    seen += self.run_through(maker(seed), manner)
        for word, least in (("still", 20), ("clash", 100), ("wrong", 50), ("right", 100), ("explained", 20), ("helped", 200)):
            self.assertGreater(seen.count(word), least, word)

    def test_large_nets(self):
        seen = []
        for seed in range(20):
            seen += self.run_through(large_net(seed), MANNERS[seed % 4])
        self.assertIn("wrong", seen)

    def test_examples(self):
        for net, words in ((FILL, ["wrong", "explained", "helped"]), (N, ["wrong", "explained", "helped"]),
                           (S, ["wrong", "explained", "helped"]), (Net(), ["right", "helped"])):
            self.assertEqual(self.run_through(net, MANNERS[0]), words)

    def test_a_right_net_has_no_other_finding(self):
        """The findings of wrong nets do not hold for the nets that are mended, and the other way round."""
        for seed in range(40):
            net = net_in_turn(seed)
            found = judge(net)
            if found.word == "wrong":
                other = self.helped(net, MANNERS[0])
                if other is not None:
                    right = judge(other)
                    self.assertIs(holds(other, right), True)
                    self.assertIs(holds(net, right), False)
                    self.assertIs(holds(other, found), False)

    def test_no_machine_can_have_made_it(self):
        """In a right net each read is the last write: a log that tells otherwise has a table, or other caches."""
        net = mended(FILL)
        rows = [("step", name) for name in ("dev", "dev", "dev", "cpu", "cpu", "cpu", "cpu", "dev", "dev", "dev")]
        log = log_of(net, rows)
        at = [k for k, (_, got) in enumerate(log) if got][0]
        self.assertEqual(log[at], ("cpu", (("dev", 1, 0), ("dev", 1, 0))))
        for got in ((None, None), (("dev", 1, 0), None), (("dev", 1, 1), ("dev", 1, 0))):
            other = log[:at] + (("cpu", got),) + log[at + 1:]
            for manner in MANNERS:
                self.assertEqual(explained(net, other, **manner), ("none", at, 0))
                table = none_table(net, other, **manner)
                self.assertIs(holds_none(net, other, table, **manner), True)
                self.assertIs(holds_none(net, log, table, **manner), False)

    def test_at_the_desk(self):
        desk = Desk()
        desk.say("net " + net_text(N).replace("\n", " / "))
        self.assertEqual([desk.say(row) for row in ("judge", "fault", "third", "lay", "mend", "judge", "show")],
                         ["wrong", "c.2 0 0 spoilt", "n.1@0 e.0@0 0 1", "pads 3", "flushes 0", "right",
                          net_text(laid(N)).replace("\n", " / ")])

    def test_four_words(self):
        self.assertEqual([Still(()).word, Clash((), (), ()).word, Wrong((), True, True).word, Right((), (), True, True).word],
                         ["still", "clash", "wrong", "right"])


if __name__ == "__main__":
    unittest.main()
