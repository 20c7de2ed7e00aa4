"""Desks: worlds kept by names, and told rows of words."""

from onehistory.errors import NoDeskRow, NoName, TooMany
from onehistory.globs import walked
from onehistory.judge import amiss
from onehistory.names import is_name
from onehistory.texts import BLANK, END, number_read, read_rows
from onehistory.world import World

MOST_WORLDS = 8
BETWEEN = "; "
NOTHING = "-"
OK = "ok"
# What stands behind each word. What is played is all the rest, blanks and all.
WORDS = {
    "world": ("name", "number"),
    "drop": ("name",),
    "names": (),
    "play": ("name", "rest"),
    "amiss": ("name",),
    "beats": ("name",),
    "paths": ("name", "number"),
}


class Desk:
    """Worlds by their names, at first none."""

    def __init__(self):
        self._worlds = {}

    def say(self, row):
        """What a row is answered, or how it is refused."""
        word, things = _parted(row)
        if word == "names":
            return " ".join(sorted(self._worlds)) if self._worlds else NOTHING
        name = things[0]
        if word == "world":
            return self._make(name, things[1])
        if name not in self._worlds:
            raise NoName(name)
        world = self._worlds[name]
        if word == "drop":
            del self._worlds[name]
            return OK
        if word == "play":
            answers = world.play(read_rows(things[1].replace(BETWEEN, END)))
            return "; ".join([repr(answer) for answer in answers])
        if word == "amiss":
            return _told_amiss(world)
        if word == "beats":
            return f"{world.beats()}"
        return _told_paths(world.house(things[1]))

    def _make(self, name, many):
        if name not in self._worlds and len(self._worlds) == MOST_WORLDS:
            raise TooMany(MOST_WORLDS + 1)
        self._worlds[name] = World(many)
        return OK

    def __len__(self):
        return len(self._worlds)


def _told_amiss(world):
    found = amiss(world.record(), world.paper())
    return "no" if found is None else f"{found[0]} {found[1]}"


def _told_paths(house):
    ways = ["/".join(way) for way, _ in walked(house.now())]
    return " ".join(ways) if ways else NOTHING


def _parted(row):
    """The word of a row and what stands behind it, or NoDeskRow, of anything."""
    if not isinstance(row, str) or END in row:
        raise NoDeskRow(row)
    parts = row.split(BLANK)
    word = parts[0]
    if word not in WORDS:
        raise NoDeskRow(row)
    if word == "play":
        parts = [*parts[:2], " ".join(parts[2:])] if len(parts) > 2 else parts
    if len(parts) != 1 + len(WORDS[word]):
        raise NoDeskRow(row)
    things = []
    for sort, part in zip(WORDS[word], parts[1:]):
        thing = number_read(part) if sort == "number" else part
        if thing is None or sort == "name" and not is_name(part):
            raise NoDeskRow(row)
        things.append(thing)
    return word, things
