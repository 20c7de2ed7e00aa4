"""Unpackings: archives that are brought in row by row, while others change the house."""

from onehistory.archive_rows import read_archive
from onehistory.bringing import Bringing, goes_together
from onehistory.errors import Outside, There
from onehistory.roads import led_to
from onehistory.standing import ask_standing
from onehistory.tree import ROOT


class Unpacking:
    """An archive on its way to a folder of a house, one row each step."""

    def __init__(self, house, path, text, *, at=0, held=False):
        place = led_to(house.now(), path, "folder", at, held)
        self._rows = read_archive(text)
        self._bringing = Bringing(house.now(), place, self._rows)
        self._house = house
        self._falls = house.falls()
        self._moments = []

    def step(self):
        """The next row is brought in as one entry; told is whether there was one."""
        ask_standing(self._house, self._falls)
        if self.left() == 0:
            return False
        row = self._rows[len(self._moments)]
        tree = self._house.now()
        standing = self._asked_standing(tree, row)
        changes = self._bringing.bring(row, standing, tree.last() + 1)
        if len(changes) == 1:
            self._moments.append(self._house.change(changes[0]))
        else:
            self._moments.append(self._house.do_all(changes))
        return True

    def left(self):
        """How many rows are left."""
        return len(self._rows) - len(self._moments)

    def moments(self):
        """The moments behind the rows that were done."""
        return list(self._moments)

    def _asked_standing(self, tree, row):
        """The folder that stands at a row's name, or None; refused where the row can't be brought now."""
        number = len(self._moments) + 1
        folder = self._bringing.folder_of(row)
        if folder != ROOT and tree.parent(folder) is None:
            raise Outside(number)
        standing = self._bringing.standing(tree, row)
        if standing is not None and not goes_together(row[0], tree.kind(standing)):
            raise There(number)
        return standing
