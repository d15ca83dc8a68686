"""Which values are integers and names."""

LETTERS = "abcdefghijklmnopqrstuvwxyz"
LONGEST_NAME = 8


def is_integer(value):
    """True for an integer; a bool is none."""
    return isinstance(value, int) and not isinstance(value, bool)


def is_within(value, low, high):
    """True for an integer from low to high, both included."""
    return is_integer(value) and low <= value <= high


def is_name(value):
    """True for a string of one to eight letters from a to z."""
    if not isinstance(value, str) or not 1 <= len(value) <= LONGEST_NAME:
        return False
    return all([sign in LETTERS for sign in value])
