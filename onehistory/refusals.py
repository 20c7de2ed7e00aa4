"""What is refused, told as an answer."""

from onehistory.errors import Fallen, Fault, NoArchive, NoChange, NoHandle, NoMoment, NoPath, NoPattern, NoRoom
from onehistory.errors import NoStretch, NoThing, Outside, There, TooMany, Waiting

REFUSED = "refused"


def answered(act, *things):
    """What a function of these things tells, or how it is refused: (`refused`, word, fields)."""
    try:
        return _answered_by_things(act, things)
    except NoChange as undone:
        return REFUSED, "NoChange", (undone.word,)
    except Fault as fault:
        return REFUSED, "Fault", (fault.word, fault.path, fault.gone)
    except Fallen as fallen:
        return REFUSED, "Fallen", (fallen.since,)
    except TooMany as many:
        return REFUSED, "TooMany", (many.many,)
    except NoArchive as bent:
        return REFUSED, "NoArchive", (bent.number,)
    except Outside as outer:
        return REFUSED, "Outside", (outer.number,)
    except There as there:
        return REFUSED, "There", (there.number,)


def _answered_by_things(act, things):
    """The same of all refusals that are made of a thing."""
    try:
        return act(*things)
    except NoPath as path:
        return REFUSED, "NoPath", (path.thing,)
    except NoMoment as moment:
        return REFUSED, "NoMoment", (moment.thing,)
    except NoThing as none:
        return REFUSED, "NoThing", (none.thing,)
    except NoHandle as handle:
        return REFUSED, "NoHandle", (handle.thing,)
    except NoPattern as pattern:
        return REFUSED, "NoPattern", (pattern.thing,)
    except NoRoom as room:
        return REFUSED, "NoRoom", (room.thing,)
    except NoStretch as stretch:
        return REFUSED, "NoStretch", (stretch.thing,)
    except Waiting as waiting:
        return REFUSED, "Waiting", (waiting.thing,)


def is_refused(thing):
    """Whether a thing, of anything, is such a refusal."""
    if not isinstance(thing, tuple) or len(thing) != 3:
        return False
    return all([isinstance(word, str) for word in thing[:2]]) and thing[0] == REFUSED and isinstance(thing[2], tuple)


def refused_as(answer, word):
    """Whether an answer is the refusal of this word."""
    return is_refused(answer) and answer[1] == word
