"""Names, paths and signs: which texts are such, and how paths are parted and joined."""

from onehistory.errors import NoPath

MOST_LETTERS = 8
MOST_STEPS = 8
MOST_SIGNS = 200
TOP = "/"
HERE = "."
UP = ".."


def is_name(thing):
    """Whether a thing, of anything, is a name: one to eight small letters."""
    if not isinstance(thing, str) or not 1 <= len(thing) <= MOST_LETTERS:
        return False
    return all(["a" <= sign <= "z" for sign in thing])


def is_path(thing):
    """Whether a thing, of anything, is a path."""
    if not isinstance(thing, str):
        return False
    if thing == TOP or thing == HERE:
        return True
    return _are_steps(thing.removeprefix(TOP).split("/"))


def is_signs(thing):
    """Whether a thing, of anything, is a text of at most 200 signs from the blank to `~`, or line feeds."""
    if not isinstance(thing, str) or len(thing) > MOST_SIGNS:
        return False
    return all([" " <= sign <= "~" or sign == "\n" for sign in thing])


def parted(path):
    """Whether a path is from the top, and the tuple of its steps."""
    if not is_path(path):
        raise NoPath(path)
    top = path.startswith(TOP)
    if path == TOP or path == HERE:
        return top, ()
    return top, tuple(path.removeprefix(TOP).split("/"))


def joined(steps, *, top=False):
    """The path that is parted into these steps, from the top or not."""
    if not isinstance(steps, (list, tuple)) or not _are_steps(steps):
        raise NoPath(steps)
    if top:
        return TOP + "/".join(steps)
    return "/".join(steps) if steps else HERE


def _are_steps(things):
    return len(things) <= MOST_STEPS and all([_is_step(thing) for thing in things])


def _is_step(thing):
    return isinstance(thing, str) and (thing == UP or is_name(thing))
