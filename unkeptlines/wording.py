"""The words of the notation: numbers, steps and agents, and how they are written down."""

from unkeptlines.kinds import is_name
from unkeptlines.steps import ACCESS_WORDS, SIGNAL_WORDS, UPKEEP_WORDS

DIGITS = "0123456789"
MOST_DIGITS = 4
STEP_SIGN = ";"


def is_number(word):
    """True for one to four digits without a leading zero."""
    if not 1 <= len(word) <= MOST_DIGITS or not all([sign in DIGITS for sign in word]):
        return False
    return word == "0" or word[0] != "0"


def are_numbers(words):
    """True if all words are numbers."""
    return all([is_number(word) for word in words])


def steps_told(words):
    """The steps of the words `; STEP ; STEP ..`; None if there is none, or one is not of the form."""
    if not words or words[0] != STEP_SIGN:
        return None
    rows = [[]]
    for word in words[1:]:
        if word == STEP_SIGN:
            rows.append([])
        else:
            rows[-1].append(word)
    steps = [_step_told(row) for row in rows]
    return None if None in steps else steps


def _step_told(words):
    if len(words) == 2 and words[0] in SIGNAL_WORDS and is_name(words[1]):
        return tuple(words)
    if len(words) != 5 or not is_name(words[1]) or not are_numbers(words[2:]):
        return None
    if words[0] not in ACCESS_WORDS and words[0] not in UPKEEP_WORDS:
        return None
    return (words[0], words[1], *[int(word) for word in words[2:]])


def steps_text(steps):
    """The words for some steps."""
    rows = [" ".join([str(part) for part in step]) for step in steps]
    return " ".join([f"{STEP_SIGN} {row}" for row in rows])
