"""The errors of the package."""


class UnkeptError(ValueError):
    """What every error of this package is."""


class NoPart(UnkeptError):
    """A variable, an agent or a signal cannot be made."""

    def __init__(self, reason, place):
        self.reason = reason
        self.place = place


class NoNet(UnkeptError):
    """A net cannot be made of these parts."""

    def __init__(self, reason, place):
        self.reason = reason
        self.place = place


class NoName(UnkeptError):
    """Nothing has this name."""

    def __init__(self, name):
        self.name = name


class NoStep(UnkeptError):
    """This is not the place of a step."""

    def __init__(self, place):
        self.place = place


class NoWay(UnkeptError):
    """This is not a way, from this index on."""

    def __init__(self, place):
        self.place = place


class Stands(UnkeptError):
    """The steps of this ring wait for each other."""

    def __init__(self, ring):
        self.ring = ring


class Clashes(UnkeptError):
    """Nothing orders these two accesses."""

    def __init__(self, one, other):
        self.one = one
        self.other = other


class Blocked(UnkeptError):
    """The agent waits for a token that is not there."""

    def __init__(self, name):
        self.name = name


class NoDeed(UnkeptError):
    """A cache cannot do this by itself."""

    def __init__(self, reason):
        self.reason = reason


class NoRun(UnkeptError):
    """This row of a run or a log cannot be done."""

    def __init__(self, row):
        self.row = row


class NoMend(UnkeptError):
    """No flushes mend the net: there is this third write."""

    def __init__(self, third):
        self.third = third


class NoLaying(UnkeptError):
    """No address parts the bytes of this slot."""

    def __init__(self, variable, slot):
        self.variable = variable
        self.slot = slot


class TooMany(UnkeptError):
    """There would be more than this."""

    def __init__(self, most):
        self.most = most


class NoText(UnkeptError):
    """This row of a text is not of the form."""

    def __init__(self, row):
        self.row = row


class NoRow(UnkeptError):
    """The desk does not understand the row."""
