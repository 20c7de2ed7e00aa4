"""Locks of stretches of files, held by somebody, and asks for them that wait."""

from onehistory.errors import NoStretch, NoWho, Waiting
from onehistory.whole import is_count, is_whole

WHO_WORDS = ("handle", "owner")


def is_who(thing):
    """Whether a thing, of anything, is somebody who locks."""
    if not isinstance(thing, tuple) or len(thing) != 2 or not isinstance(thing[0], str):
        return False
    return thing[0] in WHO_WORDS and is_count(thing[1])


def bars(one, other):
    """Whether two locks, tuples (file, begin, end, who, shared), bar one another."""
    for file, begin, end, who, _ in (one, other):
        _ask_who(who)
        _ask_stretch(file, begin, end)
    return _bar(one, other)


class Locks:
    """The locks that are held, and the asks that wait, in their order."""

    def __init__(self):
        self._had = []
        self._asked = []

    def ask(self, who, file, begin, end=None, *, shared=False):
        """Somebody asks for a stretch: told is (`got` or `waits`, who waited and got then)."""
        _ask_who(who)
        _ask_stretch(file, begin, end)
        if self.is_waiting(who):
            raise Waiting(who)
        lock = (file, begin, end, who, shared)
        if _is_barred(lock, self._had + self._asked):
            self._asked = [*self._asked, lock]
            return "waits", self._serve()
        self._get(lock)
        return "got", self._serve()

    def free(self, who, file, begin, end=None):
        """Somebody frees a stretch; told is who got then."""
        _ask_who(who)
        _ask_stretch(file, begin, end)
        self._clear_off(who, file, begin, end)
        return self._serve()

    def leave(self, who):
        """Somebody gives its ask up; told is who got then."""
        _ask_who(who)
        if not self.is_waiting(who):
            raise Waiting(who)
        self._forget_ask(who)
        return self._serve()

    def drop(self, who):
        """All locks of somebody, and its ask, go; told is who got then."""
        _ask_who(who)
        self._had = [lock for lock in self._had if lock[3] != who]
        self._forget_ask(who)
        return self._serve()

    def is_waiting(self, who):
        """Whether somebody, of anything, waits."""
        return is_who(who) and who in [ask[3] for ask in self._asked]

    def held(self):
        """The locks that are held, sorted by file, begin, who."""
        return sorted(self._had, key=_place_of_lock)

    def waiting(self):
        """The asks that wait, in order."""
        return list(self._asked)

    def twin(self):
        """Locks alike that go on by themselves."""
        other = Locks()
        other._had = list(self._had)
        other._asked = list(self._asked)
        return other

    def _serve(self):
        """All asks that nothing bars any more are got; told is whose, in order."""
        got = []
        lock = self._first_unbarred()
        while lock is not None:
            self._forget_ask(lock[3])
            self._get(lock)
            got.append(lock[3])
            lock = self._first_unbarred()
        return got

    def _first_unbarred(self):
        for number, lock in enumerate(self._asked):
            if not _is_barred(lock, self._had + self._asked[:number]):
                return lock
        return None

    def _forget_ask(self, who):
        self._asked = [ask for ask in self._asked if ask[3] != who]

    def _get(self, lock):
        file, begin, end, who, shared = lock
        self._clear_off(who, file, begin, end)
        abutting = [one for one in self._had if _abuts(one, lock)]
        for one in abutting:
            if one[2] == begin:
                begin = one[1]
            else:
                end = one[2]
        others = [one for one in self._had if one not in abutting]
        self._had = [*others, (file, begin, end, who, shared)]

    def _clear_off(self, who, file, begin, end):
        """What somebody has of a stretch goes; what it has outside stays."""
        left = []
        for lock in self._had:
            if lock[3] == who and lock[0] == file:
                left.extend(_rest_of(lock, begin, end))
            else:
                left.append(lock)
        self._had = left

    def __len__(self):
        return len(self._had)


def _ask_who(who):
    if not is_who(who):
        raise NoWho(who)


def _ask_stretch(file, begin, end):
    fits = is_count(file) and is_count(begin)
    if not fits or end is not None and (not is_whole(end) or end <= begin):
        raise NoStretch((file, begin, end))


def _ends_behind(end, sign):
    """Whether a stretch with this end goes on behind the beginning of a sign."""
    return end is None or end > sign


def _bar(one, other):
    if one[0] != other[0] or one[3] == other[3] or one[4] and other[4]:
        return False
    return _ends_behind(one[2], other[1]) and _ends_behind(other[2], one[1])


def _is_barred(lock, others):
    return any([_bar(lock, other) for other in others])


def _place_of_lock(lock):
    return lock[0], lock[1], lock[3]


def _abuts(one, other):
    """Whether two locks of one who, file and sort end and begin at the same sign."""
    if one[0] != other[0] or one[3] != other[3] or one[4] != other[4]:
        return False
    return one[2] == other[1] or other[2] == one[1]


def _rest_of(lock, begin, end):
    """What a lock has ahead of a stretch, and behind it."""
    file, first, last, who, shared = lock
    left = []
    if first < begin:
        ahead = begin if _ends_behind(last, begin) else last
        left.append((file, first, ahead, who, shared))
    if end is not None and _ends_behind(last, end):
        behind = end if end > first else first
        left.append((file, behind, last, who, shared))
    return left
