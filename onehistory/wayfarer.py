"""Who goes a road one step at a time, in a tree that may be another one at each step."""

from onehistory.errors import Fault
from onehistory.names import UP, parted
from onehistory.tree import ROOT

MOST_LINKS = 4


class Wayfarer:
    """What it came to, whence, and which steps are ahead of it."""

    def __init__(self, path, at, held, follow):
        top, steps = parted(path)
        self.path = path
        self.ahead = list(steps)
        self.trail = []
        # The turns of each folder when it was first looked at, for whoever goes while the tree changes.
        self.looked = {}
        self._top = at if held else ROOT
        self._held = held
        self._follow = follow
        self._came = []
        self._links = 0
        self.thing = self._top if top else at

    def go_on(self, tree):
        """The first step ahead is gone, or refused with Fault."""
        if tree.kind(self.thing) != "folder":
            raise Fault("kind", self.path, tuple(self.trail))
        step = self.ahead.pop(0)
        if step == UP:
            self._go_up(tree, self.thing)
        else:
            self._go_by(tree, self.thing, step)

    def _go_up(self, tree, folder):
        if self._came:
            self.thing = self._came.pop()
        elif not self._held and folder != ROOT:
            place = tree.parent(folder)
            if place is None:
                raise Fault("loose", self.path, tuple(self.trail))
            self.thing = place[0]
            self._look(tree, self.thing)
        self.trail.append((folder, UP, self.thing))

    def _go_by(self, tree, folder, name):
        self._look(tree, folder)
        names = tree.names(folder)
        if name not in names:
            raise Fault("absent", self.path, tuple(self.trail))
        self.thing = names[name]
        self.trail.append((folder, name, self.thing))
        kind = tree.kind(self.thing)
        if kind == "folder":
            self._came.append(folder)
        elif kind == "link" and (self.ahead or self._follow):
            self._go_along(folder, tree.target(self.thing))

    def _go_along(self, folder, target):
        self._links += 1
        if self._links > MOST_LINKS:
            raise Fault("loops", self.path, tuple(self.trail))
        top, steps = parted(target)
        self.ahead = list(steps) + self.ahead
        self.thing = folder
        if top:
            self.thing = self._top
            self._came = []

    def _look(self, tree, folder):
        if folder not in self.looked:
            self.looked[folder] = tree.turns(folder)


def set_out(tree, path, at, held, follow):
    """A wayfarer at the beginning of its road, where there is such a path and such a folder."""
    wayfarer = Wayfarer(path, at, held, follow)
    # A folder alone has turns: what is none is refused with NoThing.
    tree.turns(at)
    return wayfarer
