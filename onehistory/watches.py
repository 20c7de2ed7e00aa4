"""Watches: what turns beneath a thing of a house is noted, as far as there is room."""

from onehistory.errors import NoRoom
from onehistory.standing import ask_standing
from onehistory.views import noted, view_of
from onehistory.whole import is_whole

ROOM = 20
MOST_ROOM = 200


class Watch:
    """The notes of what became of a thing, and perhaps of all beneath it, since it was made or looked."""

    def __init__(self, house, thing=0, *, beneath=True, room=ROOM):
        self._view = view_of(house.now(), thing, beneath=beneath)
        if not is_whole(room) or not 1 <= room <= MOST_ROOM:
            raise NoRoom(room)
        self._house = house
        self._falls = house.falls()
        self._thing = thing
        self._beneath = beneath
        self._room = room
        self._first = self._view
        self._moment = house.moment()
        self._kept = []
        self._full = False

    def first(self):
        """What it saw at first."""
        return {way: what for way, what in self._first.items()}

    def seen(self):
        """What it sees now."""
        ask_standing(self._house, self._falls)
        return self._view_in(self._house.now())

    def notes(self):
        """The notes that it keeps."""
        self._note_on()
        return list(self._kept)

    def taken(self):
        """The notes that it keeps, and keeps no more."""
        told = self.notes()
        self._kept = []
        return told

    def look(self):
        """The notes that it keeps, and what turned behind them; it notes on from now."""
        told = self.taken()
        now = self.seen()
        told.extend(noted(self._house.moment(), self._view, now))
        self._view = now
        self._moment = self._house.moment()
        self._full = False
        return told

    def is_full(self):
        """Whether there was no room for the notes of some entry since it looked."""
        self._note_on()
        return self._full

    def noted_to(self):
        """The moment up to which all is noted."""
        self._note_on()
        return self._moment

    def _note_on(self):
        # It is always asked for before notes are taken: so it comes to the same as noting each entry as it is done.
        ask_standing(self._house, self._falls)
        while not self._full and self._moment < self._house.moment():
            self._note_entry(self._moment + 1)

    def _note_entry(self, moment):
        behind = self._view_in(self._house.tree(moment))
        new = noted(moment, self._view, behind)
        if len(self._kept) + len(new) > self._room:
            self._full = True
        else:
            self._kept = self._kept + new
            self._view = behind
            self._moment = moment

    def _view_in(self, tree):
        return view_of(tree, self._thing, beneath=self._beneath)
