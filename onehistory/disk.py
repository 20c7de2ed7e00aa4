"""Disks: which entries of a house are kept, and its falls, behind which the others may be gone."""

from onehistory.errors import NoChoice, NoMoment, TooMany
from onehistory.falling import Anew, Falling, Kept, all_in, how_many_in, one_in
from onehistory.whole import is_count

MOST_CHOICES = 200


class Disk:
    """A house, and what of it is kept."""

    def __init__(self, house):
        self._house = house
        self._kept = Kept(house.moment())
        self._new_numbers = {}

    def keep(self, handle):
        """A handle's file is kept; told is the moment."""
        file = self._house.file_of(handle)
        self._kept.keep_file(self._house.row(), file)
        return self._house.moment()

    def keep_names(self):
        """The names are kept; told is the moment."""
        self._kept.keep_all_names(self._house.row())
        return self._house.moment()

    def keep_so(self, file, until):
        """The names are kept, and what counts to a file ahead of a moment."""
        self._kept.keep_all_names(self._house.row())
        self._kept.keep_file_until(file, until)

    def told_kept(self):
        """What of its house is told kept, to be looked at alone."""
        return self._kept

    def sure(self):
        """The number of the first entry that isn't sure, the moment now where there is none."""
        unsure = self.unsure()
        return unsure[0][0] if unsure else self._house.moment()

    def unsure(self):
        """What isn't sure: tuples (number, entry)."""
        return self._kept.unsure(self._house.row())

    def is_choice(self, thing):
        """Whether a thing, of anything, is a choice of a fall now."""
        return self._falling().is_choice(thing)

    def choices(self, *, most=MOST_CHOICES):
        """All choices, sorted, or TooMany where there are more than are asked for."""
        if not is_count(most):
            raise NoMoment(most)
        falling = self._falling()
        each = [falling.shares(names) for names in range(falling.most_names() + 1)]
        if _how_many(each) > most:
            raise TooMany(most)
        return [(names, files) for names, shares in enumerate(each) for files in _all_files(shares)]

    def choice_by(self, number):
        """The choice by a number, any one from 0 on."""
        if not is_count(number):
            raise NoMoment(number)
        falling = self._falling()
        number, names = divmod(number, falling.most_names() + 1)
        files = []
        for share in falling.shares(names):
            number, left = divmod(number, how_many_in(share))
            files.append(one_in(share, left))
        return names, tuple(files)

    def fall(self, choice):
        """The house falls by a choice; told is the moment behind what is done anew."""
        falling = self._falling()
        if not falling.is_choice(choice):
            raise NoChoice(choice)
        rows = falling.left(choice)
        bent = [number for number, entry, there in rows if there != entry]
        moment = bent[0] if bent else self._house.moment()
        self._house.cut_back(moment)
        anew = Anew(self._house.now().last())
        for number, _, there in rows:
            if number >= moment and there is not None:
                self._house.change(anew.put_anew(there))
        self._new_numbers = anew.new_numbers()
        self._kept = Kept(self._house.moment())
        return self._house.moment()

    def renumbered(self):
        """What was made anew by the last fall: its new numbers by the elder ones."""
        return dict(self._new_numbers)

    def house(self):
        """The house itself."""
        return self._house

    def twin(self):
        """A disk alike, with a twin of the house, that goes on by itself."""
        other = Disk(self._house.twin())
        other._kept = self._kept.twin()
        other._new_numbers = dict(self._new_numbers)
        return other

    def _falling(self):
        return Falling(self._kept, self._house.row())

    def __len__(self):
        return len(self.unsure())


def _how_many(each):
    """How many choices there are, by the shares of each number of names."""
    total = 0
    for shares in each:
        product = 1
        for share in shares:
            product *= how_many_in(share)
        total += product
    return total


def _all_files(shares):
    """All that the files' part of a choice can be, sorted."""
    found = [()]
    for share in shares:
        found = [(*ahead, one) for ahead in found for one in all_in(share)]
    return found
