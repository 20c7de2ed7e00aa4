"""What is refused, told as an answer."""

from onehistory.errors import Fallen, Fault, NoArchive, NoChange, NoHandle, NoMoment, NoPath, NoPattern, NoRoom
from onehistory.errors import NoStretch, NoThing, Outside, There, TooMany, Waiting

REFUSED = "refused"


def answered(act, *things):
    """What a function of these things tells, or how it is refused: (`refused`, word, fields)."""
    try:
        return act(*things)
    except (NoPath, NoMoment, NoThing, NoHandle, NoPattern, NoRoom, NoStretch, Waiting) as none:
        return REFUSED, type(none).__name__, (none.thing,)
    except NoChange as undone:
        return REFUSED, type(undone).__name__, (undone.word,)
    except (NoArchive, Outside, There) as bent:
        return REFUSED, type(bent).__name__, (bent.number,)
    except TooMany as many:
        return REFUSED, type(many).__name__, (many.many,)
    except Fallen as fallen:
        return REFUSED, type(fallen).__name__, (fallen.since,)
    except Fault as fault:
        return REFUSED, type(fault).__name__, (fault.word, fault.path, fault.gone)


def is_refused(thing):
    """Whether a thing, of anything, is such a refusal."""
    if not isinstance(thing, tuple) or len(thing) != 3:
        return False
    return all([isinstance(word, str) for word in thing[:2]]) and thing[0] == REFUSED and isinstance(thing[2], tuple)


def refused_as(answer, word):
    """Whether an answer is the refusal of this word."""
    return is_refused(answer) and answer[1] == word
