"""Patterns, the paths that fit them, and all ways beneath a folder."""

from onehistory.errors import NoPattern
from onehistory.names import MOST_LETTERS, MOST_STEPS, TOP, UP, joined, parted

ANY_LETTER = "?"
ANY_LETTERS = "*"
ANY_NAMES = "**"


def is_pattern(thing):
    """Whether a thing, of anything, is a pattern."""
    if not isinstance(thing, str):
        return False
    steps = thing.removeprefix(TOP).split("/")
    return len(steps) <= MOST_STEPS and all([_is_step(step) for step in steps])


def fits(pattern, path):
    """Whether a path fits a pattern."""
    top, steps = _pattern_parted(pattern)
    other, names = parted(path)
    return top == other and names != () and UP not in names and _fit(steps, names)


def globbed(tree, pattern, *, at=0):
    """All paths of one to eight names that fit a pattern and lead by names alone to a thing, sorted."""
    top, steps = _pattern_parted(pattern)
    tree.turns(at)
    ways = walked(tree) if top else walked(tree, at=at)
    names = [way for way, _ in ways if len(way) <= MOST_STEPS]
    return sorted([joined(way, top=top) for way in names if _fit(steps, way)])


def walked(tree, *, at=0):
    """All ways by names from a folder, each with the thing to which it leads, sorted."""
    found = []
    waiting = [((), at)]
    while waiting:
        ahead, folder = waiting.pop()
        for name, thing in tree.names(folder).items():
            way = (*ahead, name)
            found.append((way, thing))
            if tree.kind(thing) == "folder":
                waiting.append((way, thing))
    return sorted(found)


def _is_step(step):
    if step == ANY_NAMES:
        return True
    if not 1 <= len(step) <= MOST_LETTERS or ANY_NAMES in step:
        return False
    return all(["a" <= sign <= "z" or sign in (ANY_LETTER, ANY_LETTERS) for sign in step])


def _pattern_parted(pattern):
    """Whether a pattern is from the top, and its steps."""
    if not is_pattern(pattern):
        raise NoPattern(pattern)
    return pattern.startswith(TOP), pattern.removeprefix(TOP).split("/")


def _fit(steps, names):
    return _fit_one_by_one(steps, names, ANY_NAMES, _fits_name)


def _fits_name(step, name):
    return _fit_one_by_one(step, name, ANY_LETTERS, _fits_letter)


def _fits_letter(sign, letter):
    return sign == ANY_LETTER or sign == letter


def _fit_one_by_one(asked, things, any_number, fits_one):
    """Whether things fit what is asked, one behind the other; any_number stands for as many as there are."""
    # For each number whether so many things fit all that is asked so far.
    reached = [number == 0 for number in range(len(things) + 1)]
    for one in asked:
        if one == any_number:
            reached = [any(reached[:number + 1]) for number in range(len(reached))]
        else:
            reached = [False] + [ahead and fits_one(one, thing) for ahead, thing in zip(reached, things)]
    return reached[-1]
