"""Trees of folders, files and links, and what is beneath a thing in them."""

from onehistory.changes import is_change
from onehistory.deeds import deed
from onehistory.dues import due
from onehistory.errors import NoChange, NoThing
from onehistory.things import Things
from onehistory.whole import is_whole

ROOT = 0


class Tree:
    """A tree, at first with the root alone, that goes on by changes."""

    def __init__(self):
        # These tables are never changed, each change brings new ones: so twins may share them.
        self._things = Things(ROOT)

    def do(self, change):
        """A change is done whole, or refused with NoChange."""
        word, behind = _tried(self._things, change)
        if word is not None:
            raise NoChange(word)
        self._things = behind

    def can(self, thing):
        """Whether a thing, of anything, is a change that can be done now."""
        word, _ = _tried(self._things, thing)
        return word is None

    def kind(self, thing):
        """`folder`, `file` or `link`."""
        if not is_whole(thing) or thing not in self._things.kind_of:
            raise NoThing(thing)
        return self._things.kind_of[thing]

    def names(self, folder):
        """A folder's names, rising, each with its thing."""
        self._ask_kind(folder, "folder")
        names = self._things.names_in[folder]
        return {name: names[name] for name in sorted(names)}

    def text(self, file):
        """A file's text."""
        self._ask_kind(file, "file")
        return self._things.text_of[file]

    def target(self, link):
        """A link's path."""
        self._ask_kind(link, "link")
        return self._things.path_of[link]

    def mark(self, thing):
        """A thing's mark."""
        self.kind(thing)
        return self._things.mark_of[thing]

    def turns(self, folder):
        """How many changes did something to a folder's names."""
        self._ask_kind(folder, "folder")
        return self._things.turns_of[folder]

    def last(self):
        """The greatest number that was ever made."""
        return self._things.greatest

    def places(self, thing):
        """A thing's places, sorted."""
        self.kind(thing)
        return sorted(self._things.places_of[thing])

    def things(self):
        """All things, rising."""
        return sorted(self._things.kind_of)

    def loose(self):
        """The loose things, rising."""
        return [thing for thing in self.things() if self._things.is_loose(thing)]

    def parent(self, folder):
        """A folder's place, None of the root and of a loose one."""
        self._ask_kind(folder, "folder")
        places = self._things.places_of[folder]
        return places[0] if places else None

    def twin(self):
        """A tree alike that goes on by itself."""
        other = Tree()
        other._things = self._things
        return other

    def _ask_kind(self, thing, kind):
        if self.kind(thing) != kind:
            raise NoThing(thing)

    def __eq__(self, other):
        return isinstance(other, Tree) and _alike(self._things, other._things)

    def __len__(self):
        return len(self._things.kind_of)

    def __repr__(self):
        return f"Tree({len(self._things.kind_of)} things)"


def beneath(tree, thing):
    """A thing of a tree and whatever is reached from it, rising."""
    tree.kind(thing)
    return tree._things.reached(thing)


def numbered_on(tree, last):
    """A twin of a tree, but that the greatest number that was ever made is last."""
    things = tree._things.twin()
    things.greatest = last
    return tree_with(things)


def tree_with(things):
    """A tree that has these tables, which nobody changes any more."""
    other = Tree()
    other._things = things
    return other


def _tried(things, change):
    """The word with which a change, of anything, is refused, or None; and the things behind it."""
    if not is_change(change):
        return "form", things
    parts = change[1] if change[0] == "all" else (change,)
    behind = things.twin()
    for part in parts:
        word = due(behind, part)
        if word is not None:
            return word, things
        deed(behind, part)
    return None, behind


def _alike(one, other):
    if one.kind_of != other.kind_of or one.names_in != other.names_in or one.greatest != other.greatest:
        return False
    return one.text_of == other.text_of and one.path_of == other.path_of and one.mark_of == other.mark_of
