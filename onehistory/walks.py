"""Walks: folder by folder what is beneath one is listed, in a house that goes on meanwhile."""

from onehistory.errors import NoThing
from onehistory.rows import History
from onehistory.standing import ask_standing
from onehistory.whole import is_count, is_whole


class Round:
    """The folders that wait to be listed, and those that were met."""

    def __init__(self, at):
        self.waits = [((), at)]
        self._met = {at: True}

    def listing(self, tree, moment):
        """The first that waits is listed, or refused with NoThing where it is no folder."""
        way, folder = self.waits[0]
        named = tree.names(folder)
        names = tuple([(name, thing, tree.kind(thing)) for name, thing in named.items()])
        self.waits = self.waits[1:]
        for name, thing, kind in names:
            if kind == "folder" and thing not in self._met:
                self._met[thing] = True
                self.waits.append(((*way, name), thing))
        return way, folder, moment, names


class Walk:
    """What is beneath a folder of a house, one listing each step."""

    def __init__(self, house, *, at=0):
        house.now().turns(at)
        self._house = house
        self._falls = house.falls()
        self._round = Round(at)
        self._listed = []

    def step(self):
        """The first folder that waits is listed; told is whether some wait still."""
        ask_standing(self._house, self._falls)
        if self._round.waits:
            self._listed.append(self._round.listing(self._house.now(), self._house.moment()))
        return not self.is_done()

    def is_done(self):
        """Whether none waits."""
        return not self._round.waits

    def waiting(self):
        """The folders that wait, in order."""
        return [folder for _, folder in self._round.waits]

    def listings(self):
        """What was listed, in order: tuples (way, folder, moment, names)."""
        ask_standing(self._house, self._falls)
        return list(self._listed)

    def things(self):
        """All things that were named, rising."""
        found = {}
        for listing in self.listings():
            for named in listing[3]:
                found[named[1]] = True
        return sorted(found)


def lets_walk(row, thing, *, at=0):
    """Whether a thing, of anything, is the whole listing of a walk from a folder in a row."""
    history = History(row)
    if not isinstance(thing, list) or not is_count(at):
        return False
    walk = Round(at)
    earliest = 0
    for listing in thing:
        if not walk.waits or not _tells_moment(listing, earliest, len(history)):
            return False
        earliest = listing[2]
        try:
            due = walk.listing(history.at(earliest), earliest)
        except NoThing:
            return False
        if not _is_just(listing, due):
            return False
    return not walk.waits


def _tells_moment(listing, earliest, latest):
    if not isinstance(listing, tuple) or len(listing) != 4:
        return False
    return is_count(listing[2]) and earliest <= listing[2] <= latest


def _is_just(thing, due):
    """Whether a thing, of anything, is just what is due: tuples, whole numbers and texts."""
    if isinstance(due, tuple):
        if not isinstance(thing, tuple) or len(thing) != len(due):
            return False
        return all([_is_just(one, other) for one, other in zip(thing, due)])
    if is_whole(due):
        return is_whole(thing) and thing == due
    return isinstance(thing, str) and thing == due
