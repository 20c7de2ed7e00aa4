"""Which changes make what is beneath one tree's root the same as beneath another one's."""

from onehistory.putting import mark_put, text_in, text_put, what_of
from onehistory.tree import ROOT


def changes_to(tree, goal):
    """The changes by which a tree's root comes to be as another one's, in order."""
    return Leading(tree, goal).all_changes()


class Leading:
    """Which things of a tree stay as things of another one, and what is to be done for all others."""

    def __init__(self, tree, goal):
        self._stands = tree
        self._goal = goal
        # To which thing of the tree each thing of the goal comes; what is made is numbered on.
        self._comes_to = {ROOT: ROOT}
        self._stays = {ROOT: True}
        self._changes = []
        self._last = tree.last()

    def all_changes(self):
        """All changes, in order."""
        self._match(ROOT)
        stay = dict(self._comes_to)
        self._strike_others(ROOT, ROOT)
        self._bring_all(ROOT)
        for thing, own in self._comes_to.items():
            self._bring_worth(thing, own, thing in stay)
        return self._changes

    def _match(self, folder):
        """What stands at the same ways, of the same kind, stays."""
        stand = self._stands.names(self._comes_to[folder])
        for name, thing in self._goal.names(folder).items():
            own = stand.get(name)
            if own is None or thing in self._comes_to or own in self._stays:
                continue
            if what_of(self._stands, own) == what_of(self._goal, thing):
                self._comes_to[thing] = own
                self._stays[own] = True
                if self._goal.kind(thing) == "folder":
                    self._match(thing)

    def _strike_others(self, own, folder):
        """All names in a folder go that aren't so in the goal's folder, None where it has none such."""
        goals = {} if folder is None else self._goal.names(folder)
        for name, thing in self._stands.names(own).items():
            goal = goals.get(name)
            stays = goal in self._comes_to and self._comes_to[goal] == thing
            if self._stands.kind(thing) == "folder":
                self._strike_others(thing, goal if stays else None)
            if not stays:
                self._changes.append(("strike", own, name))

    def _bring_all(self, folder):
        """All names of a goal's folder come that don't stand there."""
        into = self._comes_to[folder]
        is_new = into > self._stands.last()
        stand = {} if is_new else self._stands.names(into)
        for name, thing in self._goal.names(folder).items():
            if thing not in self._comes_to:
                self._last += 1
                self._comes_to[thing] = self._last
                self._changes.append(("make", into, name, self._last, what_of(self._goal, thing)))
            elif stand.get(name) != self._comes_to[thing]:
                self._changes.append(("name", into, name, self._comes_to[thing]))
            if self._goal.kind(thing) == "folder":
                self._bring_all(thing)

    def _bring_worth(self, thing, own, stays):
        """A thing has the goal's text and mark."""
        text = text_in(self._stands, own) if stays else ""
        mark = self._stands.mark(own) if stays else 0
        self._changes.extend(text_put(own, text, text_in(self._goal, thing)))
        self._changes.extend(mark_put(own, mark, self._goal.mark(thing)))
