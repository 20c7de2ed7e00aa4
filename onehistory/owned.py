"""Lists and dicts that nobody else has, and things that are just the same."""

# Nothing that worlds tell of their own is nested so deep. What askers hand in may be, and may even hold itself.
DEEPEST_OWN = 12
DEEPEST_LOOKED_AT = 24


def own(thing, deep=0):
    """The same thing, but that each list and dict in it is a new one; what is nested too deep stays as it is."""
    if deep == DEEPEST_OWN:
        return thing
    if isinstance(thing, list):
        return [own(part, deep + 1) for part in thing]
    if isinstance(thing, tuple):
        return tuple([own(part, deep + 1) for part in thing])
    if isinstance(thing, dict):
        return {key: own(part, deep + 1) for key, part in thing.items()}
    return thing


def just_the_same(one, other, deep=0):
    """Whether two things, of anything, are the same: True is no 1, and a list no tuple."""
    if deep == DEEPEST_LOOKED_AT:
        return [one] == [other]
    if not type(one) is type(other):
        return False
    if isinstance(one, (list, tuple)):
        return len(one) == len(other) and all([just_the_same(part, more, deep + 1) for part, more in zip(one, other)])
    if isinstance(one, dict):
        if len(one) != len(other):
            return False
        return all([key in other and just_the_same(part, other[key], deep + 1) for key, part in one.items()])
    # What is no number that is like itself is the same nonetheless.
    return [one] == [other]
