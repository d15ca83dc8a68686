"""The forms of a step, and which words they have."""

from unkeptlines.kinds import is_name, is_within

ACCESS_WORDS = ("read", "write", "get", "put")
READ_WORDS = ("read", "get")
WRITE_WORDS = ("write", "put")
UPKEEP_WORDS = ("clean", "drop", "flush")
DROP_WORDS = ("drop", "flush")
SIGNAL_WORDS = ("post", "wait")
PLAIN_WORDS = ("read", "write", "post", "wait")
CACHE_WORDS = ("read", "write", "get", "put", "clean", "drop", "flush", "post", "wait")
GREATEST_SHIFT = 3
GREATEST_BYTE = 7


def is_step(value):
    """True for a step of one of the two forms, whatever agent it is for."""
    if not isinstance(value, tuple):
        return False
    if len(value) == 5:
        return _is_memory_step(value)
    return len(value) == 2 and value[0] in SIGNAL_WORDS and is_name(value[1])


def _is_memory_step(value):
    word, variable, shift, first, last = value
    if word not in ACCESS_WORDS and word not in UPKEEP_WORDS:
        return False
    if not is_name(variable) or not is_within(shift, 0, GREATEST_SHIFT):
        return False
    return is_within(last, 0, GREATEST_BYTE) and is_within(first, 0, last)


def concerns_signal(step):
    """True for a post or a wait."""
    return len(step) == 2


def is_access(step):
    """True for a read, write, get or put."""
    return step[0] in ACCESS_WORDS
