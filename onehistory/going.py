"""Goings: roads that are gone step by step in a house that goes on meanwhile."""

from onehistory.errors import Fault
from onehistory.roads import Road
from onehistory.standing import ask_standing
from onehistory.wayfarer import set_out


class Going:
    """A path that is gone in a house, one step each time."""

    def __init__(self, house, path, *, at=0, held=False, follow=True):
        self._house = house
        self._falls = house.falls()
        self._asked = (path, at, held, follow)
        self._wayfarer = set_out(house.now(), path, at, held, follow)
        self._beginnings = 1
        self._ended_at = None
        self._fault = None

    def step(self):
        """One step is gone; told is whether it goes on."""
        ask_standing(self._house, self._falls)
        if self._ended_at is not None:
            return False
        if not self._wayfarer.ahead:
            return self._finish(None)
        try:
            self._wayfarer.go_on(self._house.now())
        except Fault as fault:
            return self._finish((fault.word, fault.path, fault.gone))
        return True

    def is_done(self):
        """Whether its road, or its fault, is found."""
        return self._ended_at is not None

    def anew(self):
        """How often it began anew."""
        return self._beginnings - 1

    def moment(self):
        """The house's moment as it ended, None ahead of that."""
        return self._ended_at

    def road(self):
        """Its road, None ahead of its end; the fault is raised."""
        ask_standing(self._house, self._falls)
        if self._ended_at is None:
            return None
        if self._fault is not None:
            word, path, gone = self._fault
            raise Fault(word, path, gone)
        return Road(self._wayfarer.trail, self._wayfarer.thing)

    def _finish(self, fault):
        """It ends, or begins anew where what it looked at has turned; told is whether it goes on."""
        tree = self._house.now()
        looked = self._wayfarer.looked
        if any([tree.turns(folder) != turns for folder, turns in looked.items()]):
            path, at, held, follow = self._asked
            self._wayfarer = set_out(tree, path, at, held, follow)
            self._beginnings += 1
            return True
        self._fault = fault
        self._ended_at = self._house.moment()
        return False
