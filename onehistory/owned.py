"""Lists and dicts that nobody else has, and things that are just the same."""


def own(thing):
    """The same thing, but that each list and dict in it is a new one."""
    if isinstance(thing, list):
        return [own(part) for part in thing]
    if isinstance(thing, tuple):
        return tuple([own(part) for part in thing])
    if isinstance(thing, dict):
        return {key: own(part) for key, part in thing.items()}
    return thing


def just_the_same(one, other):
    """Whether two things, of anything, are the same: True is no 1, and a list no tuple."""
    if not type(one) is type(other):
        return False
    if isinstance(one, (list, tuple)):
        return len(one) == len(other) and all([just_the_same(part, more) for part, more in zip(one, other)])
    if isinstance(one, dict):
        if len(one) != len(other):
            return False
        return all([key in other and just_the_same(part, other[key]) for key, part in one.items()])
    # What is no number that is like itself is the same nonetheless.
    return [one] == [other]
