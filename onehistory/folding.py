"""Folding: the tree that records tell, the same in whatever order they came."""

from onehistory.lines import Lines
from onehistory.placings import Placings
from onehistory.records import TEXT, identity_of
from onehistory.things import Things
from onehistory.tree import ROOT, tree_with


class Folded:
    """The tree of records, and by which records its things, names and texts came to be."""

    def __init__(self, records):
        ordered = sorted(records, key=_place_in_order)
        lines = Lines(ordered)
        things = Things(ROOT)
        # The numbers of things by their identities, the root's is None.
        self._number_of = {None: ROOT}
        for record in ordered:
            self._enter(things, record, lines)
        self._mark_all(things.mark_of, ordered, lines)
        self.naming_at = {}
        for naming, thing, folder, name in Placings(ordered, lines).standing():
            place = self._number_of[folder], name
            things.give(place[0], name, self._number_of[thing])
            self.naming_at[place] = naming
        self.whole = tree_with(things)
        self.identity_of = {number: identity for identity, number in self._number_of.items()}
        # For each file the record that its next text goes on from.
        self.text_record_of = {self._number_of[line]: last for line, last in lines.last_of.items()}

    def twin(self):
        """The same, that goes on by itself."""
        other = Folded([])
        other.whole = self.whole.twin()
        other.naming_at = {place: self.naming_at[place] for place in self.naming_at}
        other.identity_of = dict(self.identity_of)
        other.text_record_of = dict(self.text_record_of)
        return other

    def _enter(self, things, record, lines):
        """What a record makes is there, with its text."""
        identity, deed = identity_of(record), record[4]
        if deed[0] == "make":
            what = deed[3]
        elif deed[0] == TEXT and lines.begins(identity):
            what = ("file",)
        else:
            return
        number = len(self._number_of)
        self._number_of[identity] = number
        things.enter(number, what)
        if lines.begins(identity):
            things.text_of[number] = lines.worth_of[identity]

    def _mark_all(self, marks, ordered, lines):
        """Marks are put in order; a line begins with that of the file it went off from."""
        for record in ordered:
            identity, deed = identity_of(record), record[4]
            if deed[0] == "mark":
                thing = lines.line_of.get(deed[1], deed[1])
                marks[self._number_of[thing]] = deed[2]
            elif identity in lines.elder_of:
                marks[self._number_of[identity]] = marks[self._number_of[lines.elder_of[identity]]]


def tree_of(records):
    """The tree that records tell."""
    return Folded(records).whole


def identities_of(records):
    """The identities of the things of the tree that records tell, by their numbers."""
    return dict(Folded(records).identity_of)


def _place_in_order(record):
    return record[2], record[0]
