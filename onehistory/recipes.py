"""Recipes: a text is written whole at a path, step by step, so that a fall leaves the elder one or the newer."""

from onehistory.errors import NoChange, NoPath, NoRecipe
from onehistory.names import is_name, is_signs
from onehistory.roads import place_of
from onehistory.standing import ask_standing

STEPS = ("make", "write", "keep", "move", "names")
MAY_BE_LEFT_OUT = ("write", "keep", "names")
# The things of the broken falls' house: 1 is the file `f`, 2 the one that the recipe makes beside it.
BROKEN_FALLS = {
    "write": ("elder", "newer", (0, ()), ""),
    "keep": ("elder", "newer", (0, ((2, 0, 0),)), ""),
    "names": ("elder", "newer", (0, ()), "elder"),
}


class Recipe:
    """A text on its way to a path of a disk's house."""

    def __init__(self, disk, path, text, *, beside="beside", at=0, held=False, without=()):
        self._house = disk.house()
        self._folder, self._name = place_of(self._house.now(), path, at=at, held=held)
        if not is_signs(text):
            raise NoChange("form")
        if not is_name(beside) or beside == self._name:
            raise NoPath(beside)
        if not _may_be_left_out(without):
            raise NoRecipe(without)
        self._disk = disk
        self._falls = self._house.falls()
        self._text = text
        self._aside = beside
        self._words = [word for word in STEPS if word not in without]
        self._handle = None

    def step(self):
        """The next step is done; told is its word, None where all were done."""
        ask_standing(self._house, self._falls)
        if self.is_done():
            return None
        word = self._words[0]
        is_last = len(self._words) == 1
        if is_last:
            self._house.file_of(self._handle)
        self._do(word)
        if is_last:
            self._house.close(self._handle)
        self._words = self._words[1:]
        return word

    def left(self):
        """The words of the steps that are left."""
        return list(self._words)

    def is_done(self):
        """Whether all steps were done."""
        return not self._words

    def _do(self, word):
        if word == "make":
            self._make()
        elif word == "write":
            self._house.write(self._handle, 0, self._text)
        elif word == "keep":
            self._disk.keep(self._handle)
        elif word == "move":
            self._house.move(self._aside, self._name, at=self._folder)
        else:
            self._disk.keep_names()

    def _make(self):
        if self._aside in self._house.now().names(self._folder):
            self._house.strike(self._aside, at=self._folder)
        self._house.make(self._aside, ("file",), at=self._folder)
        self._handle = self._house.grasp(self._aside, at=self._folder)


def broken_fall(word):
    """A fall by which a recipe without this step is lost: (elder, newer, choice, found)."""
    if not _may_be_left_out((word,)):
        raise NoRecipe(word)
    return BROKEN_FALLS[word]


def _may_be_left_out(thing):
    """Whether a thing, of anything, tells steps by unlike words that may be left out."""
    if not isinstance(thing, (list, tuple)):
        return False
    if not all([isinstance(word, str) and word in MAY_BE_LEFT_OUT for word in thing]):
        return False
    return len(set(thing)) == len(thing)
