"""Houses: trees that go on by entries, with deeds by paths and handles of files."""

from onehistory.changes import is_change
from onehistory.errors import NoChange, NoHandle
from onehistory.roads import led_to, place_of, road_of
from onehistory.rows import CUT_BACK, History
from onehistory.whole import is_count, is_whole


class House:
    """A row that goes on, how often it fell, and the files that are open."""

    def __init__(self, row=()):
        self._history = History(row)
        self._fallen = 0
        self._files = {}
        self._next_handle = 0

    def moment(self):
        """How many entries there are."""
        return len(self._history)

    def falls(self):
        """How often it fell since it was made."""
        return self._fallen

    def change(self, change):
        """A change is done, or refused with NoChange; told is the moment behind it."""
        if not is_change(change):
            raise NoChange("form")
        self._history.put(change)
        return self.moment()

    def cut_back(self, moment):
        """It falls; told is the moment behind that."""
        self._history.at(moment)
        self._history.put((CUT_BACK, moment))
        self._fallen += 1
        self._files = {}
        return self.moment()

    def do_all(self, changes):
        """Changes are done together, as one all; told is the moment behind it."""
        if not isinstance(changes, (list, tuple)):
            raise NoChange("form")
        return self.change(("all", tuple(changes)))

    def row(self):
        """All entries."""
        return self._history.row()

    def tree(self, moment=None):
        """The tree as at a moment, now where it is left out."""
        if moment is None:
            return self.now().twin()
        return self._history.at(moment).twin()

    def now(self):
        """The tree now, to be looked at alone."""
        return self._history.at(self.moment())

    def make(self, path, what, *, at=0, held=False):
        """A thing is made at a place; told is its number."""
        folder, name = place_of(self.now(), path, at=at, held=held)
        thing = self.now().last() + 1
        self.change(("make", folder, name, thing, what))
        return thing

    def strike(self, path, *, at=0, held=False):
        """A name is struck."""
        folder, name = place_of(self.now(), path, at=at, held=held)
        self.change(("strike", folder, name))

    def move(self, path, other, *, at=0, held=False):
        """A name is moved to another place."""
        self._change_places("move", path, other, at, held)

    def exchange(self, path, other, *, at=0, held=False):
        """Two names are exchanged."""
        self._change_places("exchange", path, other, at, held)

    def name(self, path, other, *, at=0, held=False):
        """The file to which a path leads has another place, too."""
        file = led_to(self.now(), path, "file", at, held)
        folder, name = place_of(self.now(), other, at=at, held=held)
        self.change(("name", folder, name, file))

    def mark(self, path, number, *, at=0, held=False, follow=True):
        """What a path leads to has a mark."""
        road = road_of(self.now(), path, at=at, held=held, follow=follow)
        self.change(("mark", road.found(), number))

    def read(self, path, *, at=0, held=False):
        """The text of the file to which a path leads."""
        return self.now().text(led_to(self.now(), path, "file", at, held))

    def listed(self, path, *, at=0, held=False):
        """The names, sorted, of the folder to which a path leads."""
        return list(self.now().names(led_to(self.now(), path, "folder", at, held)))

    def grasp(self, path, *, at=0, held=False):
        """The file to which a path leads is opened; told is its handle."""
        file = led_to(self.now(), path, "file", at, held)
        handle = self._next_handle
        self._files[handle] = file
        self._next_handle += 1
        return handle

    def text(self, handle, *, start=0, size=None):
        """The text of a handle's file, from start on, of at most size signs."""
        text = self.now().text(self.file_of(handle))
        if not is_count(start) or size is not None and not is_count(size):
            raise NoChange("size")
        return text[start:] if size is None else text[start:start + size]

    def write(self, handle, start, signs):
        """Signs are written at a start in a handle's file."""
        self.change(("write", self.file_of(handle), start, signs))

    def cut(self, handle, size):
        """A handle's file is cut."""
        self.change(("cut", self.file_of(handle), size))

    def close(self, handle):
        """A handle is closed."""
        self.file_of(handle)
        del self._files[handle]

    def opened(self):
        """All open handles, with their files."""
        return dict(self._files)

    def file_of(self, handle):
        """The file of an open handle, or NoHandle."""
        if not is_whole(handle) or handle not in self._files:
            raise NoHandle(handle)
        return self._files[handle]

    def twin(self):
        """A house alike, with the same handles and falls, that goes on by itself."""
        other = House()
        other._history = self._history.twin()
        other._fallen = self._fallen
        other._files = dict(self._files)
        other._next_handle = self._next_handle
        return other

    def _change_places(self, word, path, other, at, held):
        folder, name = place_of(self.now(), path, at=at, held=held)
        to, new = place_of(self.now(), other, at=at, held=held)
        self.change((word, folder, name, to, new))

    def __len__(self):
        return len(self._history)
