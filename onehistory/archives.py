"""Archives: texts of all that is beneath a folder, packed and brought in again."""

from onehistory.archive_rows import MOST_ROWS, archive_of, read_archive, read_whole_rows, written
from onehistory.bringing import Bringing, thing_by_names
from onehistory.changes import MOST_CHANGES
from onehistory.errors import Fault, NoPath, TooMany
from onehistory.globs import walked
from onehistory.names import MOST_STEPS, UP, joined, parted
from onehistory.roads import led_to


def packed(tree, folder=0, *, only=None):
    """The archive of a folder, or only of what some paths lead to and the folders on their ways."""
    ways = [((), folder), *walked(tree, at=folder)]
    if only is not None:
        picked = _picked(tree, folder, only)
        ways = [(way, thing) for way, thing in ways if way == () or _is_picked(way, picked)]
    if any([len(way) > MOST_STEPS for way, _ in ways]):
        raise TooMany(MOST_STEPS + 1)
    if len(ways) > MOST_ROWS:
        raise TooMany(MOST_ROWS + 1)
    return archive_of([written(row) for row in _rows_of(tree, ways)])


def unpacked(house, path, text, *, at=0, held=False):
    """An archive is brought in at a path as one entry; told is the moment behind it."""
    place = led_to(house.now(), path, "folder", at, held)
    rows = read_archive(text)
    tree = house.now()
    bringing = Bringing(tree, place, rows)
    last = tree.last()
    changes = []
    for row in rows:
        standing = bringing.come_to(row)
        if standing is None:
            standing = thing_by_names(tree, place, parted(row[1])[1])
        brought = bringing.bring(row, standing, last + 1)
        last += len([change for change in brought if change[0] == "make"])
        changes.extend(brought)
    if len(changes) > MOST_CHANGES:
        raise TooMany(MOST_CHANGES + 1)
    return house.do_all(changes)


def whole_rows(text):
    """Of a beginning of an archive how many rows are whole, and the archive of these, None of none."""
    _, rows, _ = read_whole_rows(text)
    if not rows:
        return 0, None
    return len(rows), archive_of([written(row) for row in rows])


def _picked(tree, folder, only):
    """The ways that are picked, each a tuple of names that leads to a thing."""
    if not isinstance(only, (list, tuple)):
        raise NoPath(only)
    return [_picked_way(tree, folder, path) for path in only]


def _picked_way(tree, folder, path):
    top, names = parted(path)
    if top or names == () or UP in names:
        raise NoPath(path)
    thing = folder
    for name in names:
        if tree.kind(thing) != "folder":
            raise Fault("kind", path, ())
        if name not in tree.names(thing):
            raise Fault("absent", path, ())
        thing = tree.names(thing)[name]
    return names


def _is_picked(way, picked):
    """Whether a way is on one that is picked, or beneath it."""
    return any([way[:len(one)] == one[:len(way)] for one in picked])


def _rows_of(tree, ways):
    rows = []
    path_of = {}
    for way, thing in ways:
        kind = tree.kind(thing)
        path = joined(way)
        if thing in path_of:
            rows.append(("again", path, None, path_of[thing]))
        elif kind == "file":
            path_of[thing] = path
            rows.append((kind, path, tree.mark(thing), tree.text(thing)))
        else:
            rows.append((kind, path, tree.mark(thing), tree.target(thing) if kind == "link" else None))
    return rows
