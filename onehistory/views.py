"""Views: what stands at each way beneath a thing, how two of them differ, and notes of that."""

from onehistory.globs import walked
from onehistory.rows import History


def view_of(tree, thing, *, beneath=True):
    """What stands at each way beneath a thing, of () itself on: tuples (thing, kind, worth, mark, many)."""
    view = {(): _standing(tree, thing)}
    for way, one in _ways(tree, thing, beneath):
        view[way] = _standing(tree, one)
    return view


def differences(one, other):
    """What is gone of a view, shown and turned in another one of the same thing."""
    gone = _uppermost(one, other)
    shown = _uppermost(other, one)
    found = [("gone", way) for way in gone]
    found.extend([("shown", way, _rows_from(other, way)) for way in shown])
    found.extend([("turned", way, other[way]) for way in _alike(one, gone) if one[way] != other[way]])
    return found


def put_on(view, notes):
    """The view that comes of a view by notes, one behind the other."""
    stands = {way: what for way, what in view.items()}
    for _, difference in notes:
        word, way = difference[0], difference[1]
        if word == "gone":
            stands = {one: what for one, what in stands.items() if not _is_from(one, way)}
        elif word == "shown":
            for more, what in difference[2]:
                stands[way + more] = what
        else:
            stands[way] = difference[2]
    return {way: stands[way] for way in sorted(stands)}


def notes_between(row, thing, start, end, *, beneath=True):
    """The notes of all entries of a row behind a moment, up to another one."""
    history = History(row)
    ahead = history.at(start)
    history.at(end)
    view = view_of(ahead, thing, beneath=beneath)
    found = []
    for moment in range(start + 1, end + 1):
        behind = view_of(history.at(moment), thing, beneath=beneath)
        found.extend(noted(moment, view, behind))
        view = behind
    return found


def noted(moment, one, other):
    """The differences of two views as notes of a moment."""
    return [(moment, difference) for difference in differences(one, other)]


def _ways(tree, thing, beneath):
    """The ways of one name or more beneath a thing, sorted, each with what is there."""
    if tree.kind(thing) != "folder":
        return []
    if beneath:
        return walked(tree, at=thing)
    return [((name,), one) for name, one in tree.names(thing).items()]


def _standing(tree, thing):
    kind = tree.kind(thing)
    worth = None
    if kind == "file":
        worth = tree.text(thing)
    elif kind == "link":
        worth = tree.target(thing)
    return thing, kind, worth, tree.mark(thing), len(tree.places(thing))


def _is_from(way, upper):
    """Whether a way is an upper one, or goes on from it."""
    return way[:len(upper)] == upper


def _uppermost(one, other):
    """The uppermost ways, rising, at which another view hasn't the thing that stands in one."""
    found = []
    for way in sorted(one):
        # All ways beneath one stand right behind it, where they are sorted.
        if found and _is_from(way, found[-1]):
            continue
        if way not in other or other[way][0] != one[way][0]:
            found.append(way)
    return found


def _alike(view, gone):
    """The ways of a view, rising, that are neither gone nor beneath one that is."""
    return [way for way in sorted(view) if not any([_is_from(way, upper) for upper in gone])]


def _rows_from(view, upper):
    return tuple([(way[len(upper):], view[way]) for way in sorted(view) if _is_from(way, upper)])
