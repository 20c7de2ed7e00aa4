"""Rows of worlds by chance, of which most are answered, some refused, and some meet a fall."""

from onehistory.archives import packed
from onehistory.globs import walked
from onehistory.rows import tree_at
from onehistory.tree import Tree
from onehistory.world import World
from tests.lively import lively_change, lively_entry, of_kind
from tests.things import ODD

PATHS = ("a", "b", "c", "a/b", "b/a", "a/a", "b/c", "/", ".", "..", "/a", "/b/c", "a/../b", "c/a/b", "a/b/c")
NAMES = ("a", "b", "c")
WHATS = (("folder",), ("folder",), ("file",), ("file",), ("link", "a"), ("link", "../b"), ("link", "/"))
SIGNS = ("", "x", "hello", "two\nrows", "a longer text")
PATTERNS = ("**", "*", "a/*", "/**/b", "?", "A", "a/**")


def some_path(chance, tree, *kinds):
    """A path that leads to something, most often, of one of some kinds where these are told; now and then a new one."""
    ways = [way for way, thing in walked(tree) if len(way) < 7 and (not kinds or tree.kind(thing) in kinds)]
    roll = chance.random()
    if roll < 0.1 or not ways and "folder" not in kinds:
        return chance.choice(PATHS)
    if not ways or roll < 0.2 and "folder" in kinds:
        return chance.choice(("/", "."))
    way = chance.choice(ways)
    return chance.choice(("", "", "/")) + "/".join(way)


def new_path(chance, tree):
    """A place in some folder."""
    folder = some_path(chance, tree, "folder")
    name = chance.choice(NAMES)
    if folder in ("/", "."):
        return name
    return folder + "/" + name if folder.count("/") < 6 else folder


def some_thing(chance, things):
    return chance.choice(things) if things and chance.random() < 0.9 else chance.randrange(12)


def some_archive(chance):
    """An archive, now and then a bent one."""
    row = []
    tree = tree_at(row)
    for _ in range(chance.randrange(8)):
        entry = lively_entry(chance, tree)
        if entry:
            row.append(entry)
            tree = tree_at(row)
    text = packed(tree)
    return text if chance.random() < 0.9 else text[:-1]


def some_write(chance, house, handles):
    return ("write", some_thing(chance, handles), chance.choice((0, 0, 0, 1, 5)), chance.choice(SIGNS))


def some_ask(chance, world, number, handles, watches):
    """An ask that is answered at once."""
    tree = world.house(number).now()
    word = chance.choice((
        "make", "make", "make", "make", "make", "strike", "move", "move", "exchange", "name", "mark", "read", "listed",
        "open", "open", "open", "text", "write", "write", "write", "cut", "close", "all", "all", "keep", "keep",
        "keep names", "road", "globbed", "lock", "lock", "free", "leave", "drop", "watch", "taken", "look", "packed",
        "unpacked",
    ))
    path, other = some_path(chance, tree), new_path(chance, tree)
    file, folder = some_path(chance, tree, "file"), some_path(chance, tree, "folder")
    things = of_kind(tree, "folder", "file", "link")
    begin = chance.randrange(5)
    end = chance.choice((None, begin + 1, begin + 4, begin))
    parts = {
        "make": lambda: (other, chance.choice(WHATS)), "strike": lambda: (path,), "move": lambda: (path, other),
        "exchange": lambda: (path, some_path(chance, tree)), "name": lambda: (file, other),
        "mark": lambda: (path, chance.randrange(4)), "read": lambda: (file,), "listed": lambda: (folder,),
        "open": lambda: (file,), "text": lambda: (some_thing(chance, handles),),
        "write": lambda: some_write(chance, number, handles)[1:],
        "cut": lambda: (some_thing(chance, handles), chance.choice((0, 1, 3))),
        "close": lambda: (some_thing(chance, handles),),
        "all": lambda: (some_changes(chance, tree),), "keep": lambda: (some_thing(chance, handles),),
        "keep names": tuple, "road": lambda: (path,), "globbed": lambda: (chance.choice(PATTERNS),),
        "lock": lambda: (chance.randrange(2), begin, end, chance.random() < 0.4),
        "free": lambda: (chance.randrange(2), begin, end), "leave": tuple, "drop": tuple,
        "watch": lambda: (some_thing(chance, things), chance.random() < 0.7, chance.choice((1, 3, 20, 0))),
        "taken": lambda: (some_thing(chance, watches),), "look": lambda: (some_thing(chance, watches),),
        "packed": lambda: (folder,), "unpacked": lambda: (folder, some_archive(chance)),
    }[word]()
    if parts and chance.random() < 0.03:
        parts = list(parts)
        parts[chance.randrange(len(parts))] = chance.choice(ODD)
    return (word, *parts)


def some_changes(chance, tree):
    entry = lively_entry(chance, tree)
    if entry is None:
        return []
    return list(entry[1]) if entry[0] == "all" else (entry,)


def some_long_ask(chance, world, number, many):
    """An ask that is begun."""
    tree = world.house(number).now()
    words = ["going", "going", "walk", "whole", "whole", "unpack"] + ["copy"] * 2 * (many > 1)
    word = chance.choice(words)
    path, folder = some_path(chance, tree), some_path(chance, tree, "folder")
    if word == "walk":
        return word, some_thing(chance, of_kind(tree, "folder"))
    if word == "whole":
        place = chance.choice((some_path(chance, tree, "file"), new_path(chance, tree)))
        return word, place, chance.choice(SIGNS), chance.choice(("side",) * 8 + ("b", "A"))
    if word == "unpack":
        return word, folder, some_archive(chance)
    if word == "copy":
        other = chance.choice([one for one in range(many) if one != number])
        return word, chance.choice((folder, "/")), other, some_path(chance, world.house(other).now(), "folder")
    return word, path


def handles_told(world, number):
    """The handles and watches that were told of a house."""
    handles, watches = [], []
    for _, _, _, house, ask, answer in world.record():
        if house == number and ask[0] == "open" and isinstance(answer, int):
            handles.append(answer)
        if house == number and ask[0] == "watch" and isinstance(answer, int):
            watches.append(answer)
    return handles[-4:], watches


def some_row(chance, world, many):
    """A row that the world can play now."""
    busy = world.busy()
    roll = chance.random()
    if roll < 0.015:
        return "fall", chance.randrange(many), chance.choice((0, 1, 2, 3, 5, 17, 100, 12345, 10 ** 9))
    if busy and (len(busy) == 4 or roll < 0.55):
        return "step", chance.choice(busy)
    asker = chance.choice([asker for asker in range(4) if asker not in busy])
    number = chance.randrange(many)
    if chance.random() < 0.3:
        return "begin", asker, number, some_long_ask(chance, world, number, many)
    return "do", asker, number, some_ask(chance, world, number, *handles_told(world, number))


def some_beginning(chance):
    """Changes by which a tree begins."""
    tree = Tree()
    changes = []
    while len(changes) < 8:
        change = lively_change(chance, tree)
        if tree.can(change):
            tree.do(change)
            changes.append(change)
    return changes


def drawn_world(chance, beats, many=None):
    """A world that played so many rows, and these rows."""
    many = many or chance.randrange(1, 4)
    world = World(many)
    rows = []
    for beat in range(beats):
        if beat < many:
            row = ("do", chance.randrange(4), beat, ("all", some_beginning(chance)))
        else:
            row = some_row(chance, world, many)
        world.play([row])
        rows.append(row)
    return world, rows
