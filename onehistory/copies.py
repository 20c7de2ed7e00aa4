"""Copies: what is beneath a folder of one house is brought beneath one of another house, piece by piece."""

from onehistory.pieces import NAMES, THING, has_no_place, reading
from onehistory.putting import done_as_one, mark_put, text_in, text_put, what_of
from onehistory.roads import led_to
from onehistory.standing import ask_standing


class Copy:
    """What is beneath a folder on its way to another house, one piece each step."""

    def __init__(self, house, path, other, to):
        first = led_to(house.now(), path, "folder", 0, False)
        told = led_to(other.now(), to, "folder", 0, False)
        self._house = house
        self._falls = house.falls()
        self._other = other
        self._other_falls = other.falls()
        self._came = {first: told}
        # What is still to be read: tuples (word, thing, the folder that had it, its name there).
        self._ahead = [(NAMES, first, None, None)]
        self._read = []
        self._readings = []
        self._omitted = []

    def step(self):
        """The next piece is read and brought; told is whether it goes on."""
        ask_standing(self._house, self._falls)
        ask_standing(self._other, self._other_falls)
        if self.is_done():
            return False
        word, thing, folder, name = self._ahead.pop(0)
        tree = self._house.now()
        self._read.append((word, thing, self._house.moment()))
        self._readings.append(reading(tree, word, thing))
        if word == NAMES:
            self._ahead = [(THING, one, thing, own) for own, one in tree.names(thing).items()] + self._ahead
        else:
            self._bring(tree, thing, folder, name)
        return not self.is_done()

    def is_done(self):
        """Whether all pieces are read."""
        return not self._ahead

    def pieces(self):
        """All that was read: tuples (`names` or `thing`, thing, moment)."""
        return list(self._read)

    def left_out(self):
        """The things that were left out, one for each time."""
        return list(self._omitted)

    def came_to(self):
        """To what each thing came."""
        return dict(self._came)

    def as_at(self):
        """The moment of the last piece, if all would have been read alike then, else None."""
        if not self.is_done():
            return None
        latest = self._read[-1][2]
        tree = self._house.tree(latest)
        alike = [reading(tree, piece[0], piece[1]) == told for piece, told in zip(self._read, self._readings)]
        return latest if all(alike) else None

    def _bring(self, tree, thing, folder, name):
        """A thing comes under a name to what its folder came to, or is left out."""
        into = self._came[folder]
        other = self._other.now()
        goal = self._goal_of(tree, thing, other.names(into).get(name))
        if self._is_left_out(tree, thing, into, name, goal):
            self._omitted.append(thing)
            return
        changes, goal = _come_changes(tree, thing, other, (into, name), goal)
        done_as_one(self._other, changes)
        self._came[thing] = goal
        if tree.kind(thing) == "folder":
            self._ahead = [(NAMES, thing, None, None)] + self._ahead

    def _goal_of(self, tree, thing, standing):
        """To what a thing comes, where something stands at its name or nothing (None); None of a new one."""
        if thing in self._came:
            return self._came[thing]
        if standing is None or standing in list(self._came.values()):
            return None
        return standing if what_of(self._other.now(), standing) == what_of(tree, thing) else None

    def _is_left_out(self, tree, thing, into, name, goal):
        other = self._other.now()
        if has_no_place(tree, thing) or has_no_place(other, into):
            return True
        if tree.kind(thing) != "file" and thing in self._came:
            return True
        standing = other.names(into).get(name)
        if standing is None or standing == goal or other.kind(standing) != "folder":
            return False
        return other.names(standing) != {}


def _come_changes(tree, thing, other, place, goal):
    """The changes by which a thing of a tree comes to a place of another one, and to what it comes."""
    folder, name = place
    standing = other.names(folder).get(name)
    changes = []
    if standing is not None and standing != goal:
        changes.append(("strike", folder, name))
    if goal is None:
        goal = other.last() + 1
        changes.append(("make", folder, name, goal, what_of(tree, thing)))
        changes.extend(text_put(goal, "", text_in(tree, thing)))
        changes.extend(mark_put(goal, 0, tree.mark(thing)))
        return changes, goal
    if standing != goal:
        changes.append(("name", folder, name, goal))
    changes.extend(text_put(goal, text_in(other, goal), text_in(tree, thing)))
    changes.extend(mark_put(goal, other.mark(goal), tree.mark(thing)))
    return changes, goal
