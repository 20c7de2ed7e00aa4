"""Changes: which tuples are such, by their form alone."""

from onehistory.names import is_name, is_path, is_signs
from onehistory.whole import is_count

MOST_MARK = 999
MOST_CHANGES = 200

# What stands behind each word; what is no single change, an all, is not among these.
FORMS = {
    "make": ("number", "name", "number", "what"),
    "write": ("number", "number", "signs"),
    "cut": ("number", "number"),
    "name": ("number", "name", "number"),
    "strike": ("number", "name"),
    "move": ("number", "name", "number", "name"),
    "exchange": ("number", "name", "number", "name"),
    "mark": ("number", "mark"),
}


def is_change(thing):
    """Whether a thing, of anything, is a change by its form."""
    return _is_single(thing) or _is_all(thing)


def is_mark(thing):
    """Whether a thing, of anything, is a mark."""
    return is_count(thing) and thing <= MOST_MARK


def is_what(thing):
    """Whether a thing, of anything, tells what is made."""
    word = _word(thing)
    if word == "link":
        return len(thing) == 2 and is_path(thing[1])
    return word in ("folder", "file") and len(thing) == 1


def _word(thing):
    if isinstance(thing, tuple) and thing and isinstance(thing[0], str):
        return thing[0]
    return None


def _is_single(thing):
    word = _word(thing)
    if word not in FORMS:
        return False
    sorts = FORMS[word]
    parts = thing[1:]
    if len(parts) != len(sorts):
        return False
    return all([_is_part(sort, part) for sort, part in zip(sorts, parts)])


def _is_part(sort, part):
    if sort == "name":
        return is_name(part)
    if sort == "signs":
        return is_signs(part)
    if sort == "mark":
        return is_mark(part)
    if sort == "what":
        return is_what(part)
    return is_count(part)


def _is_all(thing):
    if _word(thing) != "all" or len(thing) != 2:
        return False
    changes = thing[1]
    if not isinstance(changes, tuple) or not 1 <= len(changes) <= MOST_CHANGES:
        return False
    return all([_is_single(change) for change in changes])
