"""Books: files of rows that are put one behind the other, and kept."""

from onehistory.errors import Full, NoLine
from onehistory.falling import alters
from onehistory.names import MOST_SIGNS, is_signs
from onehistory.standing import ask_standing

END = "\n"


class Book:
    """The file to which a path leads, by rows."""

    def __init__(self, disk, path, *, at=0, held=False):
        self._disk = disk
        self._house = disk.house()
        self._falls = self._house.falls()
        self._handle = self._house.grasp(path, at=at, held=held)
        self._cut_off_torn()
        self._known = len(self.lines()) if self._is_sure() else 0

    def put(self, line, *, sure=True):
        """A row is written at the end, and kept unless told otherwise; told is its number."""
        ask_standing(self._house, self._falls)
        if not is_signs(line) or END in line:
            raise NoLine(line)
        text = self._house.text(self._handle)
        size = len(text) + len(line) + len(END)
        if size > MOST_SIGNS:
            raise Full(size)
        self._house.write(self._handle, len(text), line + END)
        if sure:
            self.keep()
        return len(self.lines()) - 1

    def keep(self):
        """All rows are kept."""
        ask_standing(self._house, self._falls)
        self._disk.keep(self._handle)
        self._known = len(self.lines())

    def lines(self):
        """Its rows."""
        ask_standing(self._house, self._falls)
        return self._house.text(self._handle).split(END)[:-1]

    def kept(self):
        """How many rows are told kept by it."""
        return self._known

    def _cut_off_torn(self):
        text = self._house.text(self._handle)
        size = text.rfind(END) + 1
        if size < len(text):
            self._house.cut(self._handle, size)

    def _is_sure(self):
        file = self._house.file_of(self._handle)
        return not any([alters(entry, file) for _, entry in self._disk.unsure()])

    def __len__(self):
        return len(self.lines())
