"""How the rows of an archive are brought into a folder of a tree."""

from onehistory.errors import Outside, There
from onehistory.names import UP, parted


class Bringing:
    """The rows of an archive on their way into a place: to which things their paths have come so far.

    Refused are, row by row, what is for no place there, with Outside, and what comes to a name that isn't free,
    with There."""

    def __init__(self, tree, place, rows):
        self._place = place
        self._folders = {(): place}
        self._files = {}
        _look_ahead(tree, place, rows)
        for row in rows:
            self._find_folders(tree, _steps(row))

    def folder_of(self, row):
        """The folder in which a row's name is to come, of the first row the place."""
        return self._folders[_steps(row)[:-1]]

    def standing(self, tree, row):
        """What stands at a row's name, None where nothing does; of the first row the place."""
        steps = _steps(row)
        if not steps:
            return self._place
        return tree.names(self.folder_of(row)).get(steps[-1])

    def come_to(self, row):
        """The folder at a row's path, as it was found or come to by rows ahead; None where none is known."""
        return self._folders.get(_steps(row))

    def bring(self, row, standing, thing):
        """The changes of a row, where a folder stands at its name or nothing does; what it makes is this thing."""
        kind, path, mark, worth = row
        steps = _steps(row)
        if standing is not None:
            self._folders[steps] = standing
            return [("mark", standing, mark)]
        folder = self.folder_of(row)
        if kind == "again":
            return [("name", folder, steps[-1], self._files[worth])]
        if kind == "folder":
            self._folders[steps] = thing
        elif kind == "file":
            self._files[path] = thing
        return _making(row, folder, thing)

    def _find_folders(self, tree, steps):
        """The folders that stand on the way to a row's name are kept in mind."""
        for many in range(1, len(steps)):
            found = thing_by_names(tree, self._place, steps[:many])
            if found is not None:
                self._folders[steps[:many]] = found


def thing_by_names(tree, folder, names):
    """The thing to which names lead from a folder, no link being gone along; None where they lead to none."""
    thing = folder
    for name in names:
        if tree.kind(thing) != "folder" or name not in tree.names(thing):
            return None
        thing = tree.names(thing)[name]
    return thing


def goes_together(kind, other):
    """Whether a row of this kind may come where a thing of the other kind stands."""
    return kind == "folder" and other == "folder"


def _steps(row):
    return parted(row[1])[1]


def _making(row, folder, thing):
    kind, _, mark, worth = row
    steps = _steps(row)
    what = ("link", worth) if kind == "link" else (kind,)
    changes = [("make", folder, steps[-1], thing, what)]
    if kind == "file" and worth != "":
        changes.append(("write", thing, 0, worth))
    if mark != 0:
        changes.append(("mark", thing, mark))
    return changes


def _look_ahead(tree, place, rows):
    """Whether all rows can be brought, row by row, as the tree is."""
    kinds = {}
    files = {}
    for number, row in enumerate(rows, start=1):
        kind, path, _, worth = row
        top, steps = parted(path)
        if top or UP in steps or kind == "again" and worth not in files:
            raise Outside(number)
        if _kind_at(tree, place, kinds, steps[:-1]) != "folder":
            raise Outside(number)
        stands = _kind_at(tree, place, kinds, steps)
        if stands is not None and not goes_together(kind, stands):
            raise There(number)
        kinds[steps] = kind
        if kind == "file":
            files[path] = True


def _kind_at(tree, place, kinds, steps):
    """The kind of what stands at a path, by a row ahead or in the tree; None where nothing does."""
    if steps in kinds:
        return kinds[steps]
    thing = thing_by_names(tree, place, steps)
    return None if thing is None else tree.kind(thing)
