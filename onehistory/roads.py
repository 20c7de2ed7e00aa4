"""Roads: how a path is gone in a tree, and to what it leads."""

from onehistory.errors import Fault, NoPath, NoThing
from onehistory.names import UP
from onehistory.wayfarer import set_out


class Road:
    """The steps of a road and the thing at its end. It never changes."""

    def __init__(self, steps, found):
        self._trail = tuple(steps)
        self._thing = found

    def steps(self):
        """The steps, tuples (folder, name or `..`, what is come to)."""
        return list(self._trail)

    def found(self):
        """The thing at the end."""
        return self._thing

    def __eq__(self, other):
        return isinstance(other, Road) and self._trail == other._trail and self._thing == other._thing

    def __len__(self):
        return len(self._trail)

    def __repr__(self):
        return f"Road({list(self._trail)}, {self._thing})"


def road_of(tree, path, *, at=0, held=False, follow=True):
    """The road by which a path is gone, or NoPath, NoThing, Fault."""
    wayfarer = set_out(tree, path, at, held, follow)
    _go_all(wayfarer, tree)
    return Road(wayfarer.trail, wayfarer.thing)


def place_of(tree, path, *, at=0, held=False):
    """The folder to which all steps but the last lead, and the last one, a name."""
    wayfarer = set_out(tree, path, at, held, True)
    if not wayfarer.ahead or wayfarer.ahead[-1] == UP:
        raise Fault("form", path, ())
    name = wayfarer.ahead.pop()
    _go_all(wayfarer, tree)
    _ask_kind(tree, wayfarer, "folder")
    return wayfarer.thing, name


def led_to(tree, path, kind, at, held):
    """The thing of this kind to which a path leads, or Fault `kind` of others."""
    wayfarer = set_out(tree, path, at, held, True)
    _go_all(wayfarer, tree)
    _ask_kind(tree, wayfarer, kind)
    return wayfarer.thing


def is_road(tree, path, thing, *, at=0, held=False, follow=True):
    """Whether a thing, of anything, is the road of a path."""
    try:
        road = road_of(tree, path, at=at, held=held, follow=follow)
    except (NoPath, NoThing, Fault):
        return False
    return road == thing


def _go_all(wayfarer, tree):
    while wayfarer.ahead:
        wayfarer.go_on(tree)


def _ask_kind(tree, wayfarer, kind):
    if tree.kind(wayfarer.thing) != kind:
        raise Fault("kind", wayfarer.path, tuple(wayfarer.trail))
