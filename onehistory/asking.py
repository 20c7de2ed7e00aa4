"""What askers ask of the houses of a world, and how that is answered: at once, or step by step."""

from onehistory.archives import packed, unpacked
from onehistory.copies import Copy
from onehistory.disk import Disk
from onehistory.errors import NoHandle
from onehistory.globs import globbed
from onehistory.going import Going
from onehistory.house import House
from onehistory.locks import Locks
from onehistory.recipes import Recipe
from onehistory.roads import led_to, road_of
from onehistory.unpacking import Unpacking
from onehistory.walks import Walk
from onehistory.watches import Watch
from onehistory.whole import is_count, is_whole

DONE = "done"
COPY = "copy"
UNPACK = "unpack"
WHOLE = "whole"
GOING = "going"
WALK = "walk"

# What is asked with, by the word of an ask that is answered at once.
AT_ONCE = {
    "make": ("path", "what"),
    "strike": ("path",),
    "move": ("path", "path"),
    "exchange": ("path", "path"),
    "name": ("path", "path"),
    "mark": ("path", "number"),
    "read": ("path",),
    "listed": ("path",),
    "open": ("path",),
    "text": ("number",),
    "write": ("number", "number", "signs"),
    "cut": ("number", "number"),
    "close": ("number",),
    "all": ("changes",),
    "keep": ("number",),
    "keep names": (),
    "road": ("path",),
    "globbed": ("pattern",),
    "lock": ("number", "number", "end", "truth"),
    "free": ("number", "number", "end"),
    "leave": (),
    "drop": (),
    "watch": ("number", "truth", "number"),
    "taken": ("number",),
    "look": ("number",),
    "packed": ("path",),
    "unpacked": ("path", "text"),
}
# And by that of one that is begun, and answered at some later step.
BEGUN = {
    "going": ("path",),
    "walk": ("number",),
    "whole": ("path", "signs", "text"),
    "unpack": ("path", "text"),
    "copy": ("path", "number", "path"),
}


class Site:
    """A house of a world, its disk and locks, and the handles and watches that its askers were told."""

    def __init__(self):
        self.home = House()
        self.disk = Disk(self.home)
        self.locks = Locks()
        # The house's own handles by those that were told: recipes open files, too, of which none is told.
        self.handles = {}
        self.next_handle = 0
        self.watches = []

    def lose_all(self):
        """Its locks and all handles are gone with a fall."""
        self.locks = Locks()
        self.handles = {}

    def handle_of(self, thing):
        """The house's own handle by one that was told, or NoHandle."""
        if not is_whole(thing) or thing not in self.handles:
            raise NoHandle(thing)
        return self.handles[thing]

    def watch_of(self, thing):
        """A watch by its number, or NoHandle."""
        if not is_count(thing) or thing >= len(self.watches):
            raise NoHandle(thing)
        return self.watches[thing]


def sorts_at_once(word):
    """What is asked with by a word that is answered at once, None where it is none."""
    return AT_ONCE.get(word)


def sorts_begun(word):
    """What is asked with by a word that is begun, None where it is none."""
    return BEGUN.get(word)


def is_ask_at_once(thing):
    """Whether a thing, of anything, is an ask that is answered at once."""
    return has_word(thing) and has_all(thing, sorts_at_once(thing[0]))


def is_ask_begun(thing, number, many):
    """Whether a thing, of anything, is an ask that can be begun at the house of this number, one of so many."""
    if not has_word(thing) or not has_all(thing, sorts_begun(thing[0])):
        return False
    return thing[0] != COPY or is_whole(thing[2]) and 0 <= thing[2] < many and thing[2] != number


def answer_at_once(site, asker, ask):
    """What an ask is answered, or its refusal."""
    answers = ANSWERS[ask[0]]
    things = ask[1:]
    return answers(site, asker, *things)


def begun_by(sites, number, ask):
    """What is under way by an ask that is begun at the house of this number, or its refusal."""
    begins = BEGINNINGS[ask[0]]
    things = ask[1:]
    return begins(sites, sites[number], *things)


def ends_by_step(word, begun):
    """A step of what is under way is done; told is whether it ended it."""
    if word == WHOLE:
        begun.step()
        return begun.is_done()
    if word == UNPACK:
        begun.step()
        return begun.left() == 0
    return not begun.step()


def answer_at_end(word, begun):
    """What an ask is answered that came to its end, or its refusal."""
    if word == GOING:
        road = begun.road()
        return road.steps(), road.found()
    if word == WALK:
        return begun.listings()
    if word == UNPACK:
        return begun.moments()
    if word == COPY:
        return begun.pieces(), begun.left_out(), begun.as_at()
    return DONE


def moments_at_end(word, begun):
    """The moments of which each piece of an answer is true."""
    if word == GOING:
        return [begun.moment()]
    if word == WALK:
        return [listing[2] for listing in begun.listings()]
    if word == UNPACK:
        return begun.moments()
    if word == COPY:
        return [piece[2] for piece in begun.pieces()]
    return []


def has_word(thing):
    """Whether a thing, of anything, is a tuple that begins with a text."""
    return isinstance(thing, tuple) and thing != () and isinstance(thing[0], str)


def has_all(thing, sorts):
    """Whether there is something of each of some sorts, if there are such, behind a word, and no more."""
    return sorts is not None and len(thing) == 1 + len(sorts)


def _make(site, _asker, path, what):
    return site.home.make(path, what)


def _strike(site, _asker, path):
    return site.home.strike(path)


def _move(site, _asker, path, other):
    return site.home.move(path, other)


def _exchange(site, _asker, path, other):
    return site.home.exchange(path, other)


def _name(site, _asker, path, other):
    return site.home.name(path, other)


def _mark(site, _asker, path, number):
    return site.home.mark(path, number)


def _read(site, _asker, path):
    return site.home.read(path)


def _listed(site, _asker, path):
    return site.home.listed(path)


def _grasp(site, _asker, path):
    told = site.next_handle
    site.handles[told] = site.home.grasp(path)
    site.next_handle += 1
    return told


def _text(site, _asker, handle):
    return site.home.text(site.handle_of(handle))


def _write(site, _asker, handle, start, signs):
    return site.home.write(site.handle_of(handle), start, signs)


def _cut(site, _asker, handle, size):
    return site.home.cut(site.handle_of(handle), size)


def _close(site, _asker, handle):
    site.home.close(site.handle_of(handle))
    del site.handles[handle]


def _do_all(site, _asker, changes):
    return site.home.do_all(changes)


def _keep(site, _asker, handle):
    return site.disk.keep(site.handle_of(handle))


def _keep_names(site, _asker):
    return site.disk.keep_names()


def _road(site, _asker, path):
    road = road_of(site.home.now(), path)
    return road.steps(), road.found()


def _globbed(site, _asker, pattern):
    return globbed(site.home.now(), pattern)


def _lock(site, asker, file, first, end, shared):
    return site.locks.ask(("owner", asker), file, first, end, shared=shared)


def _free(site, asker, file, first, end):
    return site.locks.free(("owner", asker), file, first, end)


def _leave(site, asker):
    return site.locks.leave(("owner", asker))


def _drop(site, asker):
    return site.locks.drop(("owner", asker))


def _watch(site, _asker, thing, beneath, room):
    site.watches.append(Watch(site.home, thing, beneath=beneath, room=room))
    return len(site.watches) - 1


def _taken(site, _asker, watch):
    return site.watch_of(watch).taken()


def _look(site, _asker, watch):
    return site.watch_of(watch).look()


def _packed(site, _asker, path):
    tree = site.home.now()
    return packed(tree, led_to(tree, path, "folder", 0, False))


def _unpacked(site, _asker, path, text):
    return unpacked(site.home, path, text)


def _going(_sites, site, path):
    return Going(site.home, path)


def _walk(_sites, site, folder):
    return Walk(site.home, at=folder)


def _whole(_sites, site, path, text, beside):
    return Recipe(site.disk, path, text, beside=beside)


def _unpack(_sites, site, path, text):
    return Unpacking(site.home, path, text)


def _copy(sites, site, path, number, other):
    return Copy(site.home, path, sites[number].home, other)


ANSWERS = {
    "make": _make,
    "strike": _strike,
    "move": _move,
    "exchange": _exchange,
    "name": _name,
    "mark": _mark,
    "read": _read,
    "listed": _listed,
    "open": _grasp,
    "text": _text,
    "write": _write,
    "cut": _cut,
    "close": _close,
    "all": _do_all,
    "keep": _keep,
    "keep names": _keep_names,
    "road": _road,
    "globbed": _globbed,
    "lock": _lock,
    "free": _free,
    "leave": _leave,
    "drop": _drop,
    "watch": _watch,
    "taken": _taken,
    "look": _look,
    "packed": _packed,
    "unpacked": _unpacked,
}
BEGINNINGS = {
    "going": _going,
    "walk": _walk,
    "whole": _whole,
    "unpack": _unpack,
    "copy": _copy,
}
