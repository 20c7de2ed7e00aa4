"""Whole numbers, of which True and False are none."""


def is_whole(thing):
    """Whether a thing, of anything, is a whole number."""
    return isinstance(thing, int) and not isinstance(thing, bool)


def is_count(thing):
    """Whether a thing, of anything, is a whole number from 0 on."""
    return is_whole(thing) and thing >= 0
