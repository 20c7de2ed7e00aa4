"""Rows of entries, and the trees as at each of their moments."""

from onehistory.changes import is_change
from onehistory.errors import NoChange, NoMoment, NoRow
from onehistory.tree import Tree, numbered_on
from onehistory.whole import is_count

CUT_BACK = "cut back"


class History:
    """A row that goes on by entries, with the tree as at each moment."""

    def __init__(self, row=()):
        self._row = []
        self._trees = [Tree()]
        if not isinstance(row, (list, tuple)):
            raise NoRow(None)
        for number, entry in enumerate(row):
            try:
                self.put(entry)
            except (NoChange, NoMoment) as why:
                raise NoRow(number) from why

    def put(self, entry):
        """An entry is put behind all others, or refused with NoChange or NoMoment."""
        now = self._trees[-1]
        if _is_cut_back(entry):
            tree = numbered_on(self.at(entry[1]), now.last())
        else:
            # What is no entry by its form is no change either: the tree refuses both alike.
            tree = now.twin()
            tree.do(entry)
        self._row.append(entry)
        self._trees.append(tree)

    def at(self, moment):
        """The tree as at a moment, to be looked at alone."""
        if not is_count(moment) or moment > len(self._row):
            raise NoMoment(moment)
        return self._trees[moment]

    def row(self):
        """All entries."""
        return list(self._row)

    def twin(self):
        """A history alike that goes on by itself."""
        other = History()
        other._row = list(self._row)
        other._trees = list(self._trees)
        return other

    def __len__(self):
        return len(self._row)


def tree_at(row, moment=None):
    """The tree as at a moment of a row, at its end where the moment is left out."""
    history = History(row)
    if moment is None:
        return history.at(len(history))
    return history.at(moment)


def is_entry(thing):
    """Whether a thing, of anything, is an entry by its form."""
    return is_change(thing) or _is_cut_back(thing)


def _is_cut_back(thing):
    if not isinstance(thing, tuple) or len(thing) != 2 or not is_count(thing[1]):
        return False
    return isinstance(thing[0], str) and thing[0] == CUT_BACK
