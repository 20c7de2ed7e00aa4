"""Placings: in which folder each naming stands, which strikes of it count, and which name it has."""

from onehistory.names import MOST_LETTERS
from onehistory.records import TEXT, identity_of, knows

LETTERS = "abcdefghijklmnopqrstuvwxyz"


class Placings:
    """All placings of records in order, tuples (record, naming, folder, the name that it wishes)."""

    def __init__(self, ordered, lines):
        self._lines = lines
        self._named = namings_in(ordered, lines)
        self._rows = []
        # By naming: the numbers of its placings, and its strikes that count. By folder: the placings in it.
        self._rows_of = {}
        self._strikes_of = {}
        self._rows_in = {}
        # By line: the namings of its file.
        self._namings_of = {}
        strikes = [(record, record[4][1]) for record in ordered if record[4][0] == "strike"]
        strikes = [(strike, naming) for strike, naming in strikes if naming in self._named]
        self._count([(strike, naming) for strike, naming in strikes if self._kind(naming) != "folder"])
        for record in ordered:
            self._place_by(record, record[4])
        # Whether a strike of a folder counts hangs on strikes that it knew: these are ahead of it in order.
        self._count([(strike, naming) for strike, naming in strikes if self._kind(naming) == "folder"])
        self._had = []
        for number in range(len(self._rows)):
            self._had.append(self._name_had(number))

    def standing(self):
        """All that stands: tuples (naming, the thing that it names, folder, name)."""
        found = []
        for naming, numbers in self._rows_of.items():
            if naming not in self._strikes_of:
                found.append((naming, self._named[naming][1], self._rows[numbers[-1]][2], self._had[numbers[-1]]))
        return found

    def _kind(self, naming):
        return self._named[naming][0]

    def _count(self, strikes):
        for strike, naming in strikes:
            if self._counts(strike, naming):
                self._strikes_of.setdefault(naming, []).append(strike)

    def _counts(self, strike, naming):
        kind, thing = self._named[naming]
        if kind == "file":
            return self._lines.lets_count(strike, thing)
        if kind == "folder":
            return all([self._knows_gone(strike, number) for number in self._rows_in.get(thing, [])])
        return True

    def _knows_strike(self, record, naming):
        return any([knows(record, strike) for strike in self._strikes_of.get(naming, [])])

    def _later(self, number):
        """The records of a naming's placings behind one of them."""
        return [self._rows[one][0] for one in self._rows_of[self._rows[number][1]] if one > number]

    def _knows_gone(self, record, number):
        """Whether a record knows a strike of a placing's naming, or that it was placed later."""
        return self._knows_strike(record, self._rows[number][1]) or any(
            [knows(record, later) for later in self._later(number)])

    def _place_by(self, record, deed):
        identity = identity_of(record)
        if deed[0] == "make":
            self._put(record, identity, deed[1], deed[2])
        elif deed[0] == "name":
            self._put(record, identity, deed[2], deed[3])
        elif deed[0] == TEXT and identity in self._named:
            self._place_beside(record, identity)
        elif deed[0] == "move":
            self._move(record, deed[1], deed[2], deed[3])
        elif deed[0] == "exchange":
            self._move(record, deed[1], deed[2], deed[3])
            self._move(record, deed[4], deed[5], deed[6])

    def _put(self, record, naming, folder, wish):
        number = len(self._rows)
        self._rows.append((record, naming, folder, wish))
        self._rows_of.setdefault(naming, []).append(number)
        self._rows_in.setdefault(folder, []).append(number)
        kind, thing = self._named[naming]
        if kind == "file":
            self._namings_of.setdefault(thing, {})[naming] = True

    def _place_beside(self, text, identity):
        """What begins with a text comes where the file of the line ahead of it was, as far as that text knew."""
        elder = self._lines.elder_of[identity]
        for naming in list(self._namings_of.get(elder, {})):
            if not self._knows_strike(text, naming):
                _, _, folder, wish = self._rows[self._rows_of[naming][-1]]
                self._put(text, identity, folder, wish)
                return

    def _move(self, record, naming, folder, wish):
        # The naming of a text is none where it goes on, or where all of its file's were struck.
        if naming not in self._rows_of:
            return
        if self._kind(naming) == "folder" and naming in self._above(folder):
            return
        self._put(record, naming, folder, wish)

    def _above(self, folder):
        """A folder and all that it stands beneath, as it is placed so far."""
        found = []
        while folder is not None:
            found.append(folder)
            folder = self._rows[self._rows_of[folder][-1]][2]
        return found

    def _name_had(self, number):
        record, naming, folder, wish = self._rows[number]
        ahead = [one for one in self._rows_in[folder] if one < number and self._rows[one][1] != naming]
        taken = [self._had[one] for one in ahead if not self._is_gone_for(record, one)]
        if wish not in taken:
            return wish
        others = [wish[:MOST_LETTERS - 2] + one + two for one in LETTERS for two in LETTERS]
        free = [name for name in others if name not in taken]
        return free[0]

    def _is_gone_for(self, record, number):
        """Whether a record knows that a placing was left, or leaves it itself."""
        return self._knows_gone(record, number) or record in self._later(number)


def namings_in(ordered, lines):
    """All namings: tuples (kind, thing) of what each names."""
    found = {}
    for record in ordered:
        identity, deed = identity_of(record), record[4]
        if deed[0] == "make":
            found[identity] = (deed[3][0], identity)
        elif deed[0] == "name":
            found[identity] = ("file", lines.line_of[deed[1]])
        elif deed[0] == TEXT and lines.begins(identity):
            found[identity] = ("file", identity)
    return found
