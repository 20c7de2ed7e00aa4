"""Rows of a world: which tuples are such."""

from onehistory.asking import is_ask_at_once, is_ask_begun
from onehistory.whole import is_count, is_whole

ASKERS = (0, 1, 2, 3)
DO = "do"
BEGIN = "begin"
STEP = "step"
FALL = "fall"
# How many things each row has, its word among them.
SIZES = {"do": 4, "begin": 4, "step": 2, "fall": 3}


def is_row(thing, many, busy):
    """Whether a thing, of anything, is a row of a world of so many houses while these askers are busy."""
    word = word_of(thing)
    if word == FALL:
        return is_number_of(thing[1], many) and is_count(thing[2])
    if word is None or not is_asker(thing[1]):
        return False
    if word == STEP:
        return thing[1] in busy
    if thing[1] in busy or not is_number_of(thing[2], many):
        return False
    return is_ask_at_once(thing[3]) if word == DO else is_ask_begun(thing[3], thing[2], many)


def word_of(thing):
    """The word of what has as many things as a row by this word, None of anything else."""
    if not isinstance(thing, tuple) or not thing or not isinstance(thing[0], str) or thing[0] not in SIZES:
        return None
    return thing[0] if len(thing) == SIZES[thing[0]] else None


def is_asker(thing):
    """Whether a thing, of anything, is an asker's number."""
    return is_whole(thing) and thing in ASKERS


def is_number_of(thing, many):
    """Whether a thing, of anything, is the number of one of so many, from 0."""
    return is_count(thing) and thing < many
