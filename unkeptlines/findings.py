"""Findings: what is told of a net, with the evidence."""


class Finding:
    """What every finding is; each subclass has evidence of its own."""

    def __init__(self):
        self.word = None

    def __eq__(self, other):
        return isinstance(other, Finding) and self.word == other.word

    def __bool__(self):
        return False


# Each class has all methods in its own body: the document lists them for each of the four.
class Still(Finding):
    """The steps of a ring wait for each other."""

    def __init__(self, ring):
        self.word = "still"
        self.ring = ring

    def __eq__(self, other):
        return isinstance(other, Still) and self.ring == other.ring

    def __bool__(self):
        return False


class Clash(Finding):
    """After a run two accesses of one byte are next, at least one of them a write."""

    def __init__(self, one, other, run):
        self.word = "clash"
        self.one = one
        self.other = other
        self.run = run

    def __eq__(self, other):
        return (isinstance(other, Clash) and self.one == other.one
                and self.other == other.other and self.run == other.run)

    def __bool__(self):
        return False


class Wrong(Finding):
    """At the end of a run a byte is read with another value than the one that was written last."""

    def __init__(self, rows, eager, whole):
        self.word = "wrong"
        self.rows = rows
        self.eager = eager
        self.whole = whole

    def __eq__(self, other):
        return (isinstance(other, Wrong) and self.rows == other.rows
                and self.eager == other.eager and self.whole == other.whole)

    def __bool__(self):
        return False


class Right(Finding):
    """The net goes on, and by some ways one sees that each read gets the value that was written last."""

    def __init__(self, steps, ways, eager, whole):
        self.word = "right"
        self.steps = steps
        self.ways = ways
        self.eager = eager
        self.whole = whole

    def __eq__(self, other):
        return (isinstance(other, Right) and self.steps == other.steps and self.ways == other.ways
                and self.eager == other.eager and self.whole == other.whole)

    def __bool__(self):
        return True
