"""Records of what three hands did to a tree apart, and which of them knew which.

A record is a tuple (hand, number, count, knew, deed); its first two are its identity."""

from onehistory.changes import is_mark, is_what
from onehistory.names import is_name, is_signs
from onehistory.whole import is_count, is_whole

HANDS = (0, 1, 2)
TEXT = "text"

# What stands behind each word of a deed. All but names, whats, signs and marks are identities.
DEEDS = {
    "make": ("folder", "name", "what"),
    "name": ("file", "folder", "name"),
    "text": ("ahead", "signs"),
    "mark": ("thing", "mark"),
    "strike": ("naming",),
    "move": ("naming", "folder", "name"),
    "exchange": ("naming", "folder", "name", "naming", "folder", "name"),
}
IDENTITIES = ("folder", "file", "ahead", "thing", "naming")
MAY_BE_THE_ROOT = ("folder", "thing")


def are_records(thing):
    """Whether a thing, of anything, is records."""
    if not isinstance(thing, list) or not all([_is_formed(row) for row in thing]):
        return False
    identities = [identity_of(row) for row in thing]
    if any([one >= other for one, other in zip(identities, identities[1:])]):
        return False
    stand = {identity_of(row): row for row in thing}
    return all([_is_grounded(row, stand) for row in thing])


def knows(record, other):
    """Whether a record knew another one."""
    return other[1] <= record[3][other[0]]


def identity_of(record):
    """The identity that a record has."""
    return record[0], record[1]


def is_hand(thing):
    """Whether a thing, of anything, is a hand's number."""
    return is_whole(thing) and thing in HANDS


def _is_formed(thing):
    if not isinstance(thing, tuple) or len(thing) != 5:
        return False
    hand, number, count, knew, deed = thing
    if not is_hand(hand) or not _is_from_one(number) or not _is_from_one(count):
        return False
    if not isinstance(knew, tuple) or len(knew) != len(HANDS) or not all([is_count(many) for many in knew]):
        return False
    return _is_deed(deed)


def _is_from_one(thing):
    return is_whole(thing) and thing >= 1


def _is_deed(thing):
    if not isinstance(thing, tuple) or not thing or not isinstance(thing[0], str) or thing[0] not in DEEDS:
        return False
    sorts = DEEDS[thing[0]]
    parts = thing[1:]
    return len(parts) == len(sorts) and all([_is_part(sort, part) for sort, part in zip(sorts, parts)])


def _is_part(sort, part):
    if sort == "name":
        return is_name(part)
    if sort == "what":
        return is_what(part)
    if sort == "signs":
        return is_signs(part)
    if sort == "mark":
        return is_mark(part)
    if part is None:
        return sort in MAY_BE_THE_ROOT
    return isinstance(part, tuple) and len(part) == 2 and is_hand(part[0]) and _is_from_one(part[1])


def _is_grounded(record, stand):
    """Whether all that a record knew, and names, stands there, and it is counted so."""
    hand, number, count, knew, deed = record
    if knew[hand] != number - 1:
        return False
    last = [(one, many) for one, many in enumerate(knew) if many > 0]
    if not all([identity in stand for identity in last]):
        return False
    # The last one of each hand knew all of its hand ahead: so what these knew is all that there is to look at.
    lately = [stand[identity] for identity in last]
    if not all([all([one <= many for one, many in zip(row[3], knew)]) for row in lately]):
        return False
    if count != 1 + max([row[2] for row in lately], default=0):
        return False
    named = [(sort, part) for sort, part in zip(DEEDS[deed[0]], deed[1:]) if sort in IDENTITIES]
    return all([part is None or _is_known(record, stand, sort, part) for sort, part in named])


def _is_known(record, stand, sort, identity):
    if identity not in stand or not knows(record, stand[identity]):
        return False
    deed = stand[identity][4]
    if deed[0] == TEXT:
        return sort != "folder"
    if deed[0] == "name":
        return sort == "naming"
    return deed[0] == "make" and _is_made(sort, deed[3][0])


def _is_made(sort, kind):
    """Whether what a make of this kind makes can stand for this sort."""
    if sort == "folder":
        return kind == "folder"
    return kind == "file" if sort in ("file", "ahead") else True
