"""A second, plain telling of points 5 to 7, by other tables, against which trees and rows are held.

All names stand in one table from places to things; each refusal is told by going through
a list of (whether it is due, word) in the document's order. Changes are of the right form.
"""

import copy


class Naive:
    def __init__(self):
        self.kinds = {0: "folder"}
        self.names = {}
        self.worth = {0: None}
        self.marks = {0: 0}
        self.turns = {}
        self.last = 0

    def loose(self, thing):
        return thing != 0 and thing not in self.names.values()

    def above(self, folder):
        """A folder and all above it."""
        found = [folder]
        while True:
            ahead = [place[0] for place, thing in self.names.items() if thing == found[-1]]
            if not ahead:
                return found
            found.append(ahead[0])

    def holds(self, folder):
        return any(place[0] == folder for place in self.names)

    def folder(self, folder, new=False):
        yield folder not in self.kinds, "absent"
        yield self.kinds[folder] != "folder", "kind"
        yield new and self.loose(folder), "loose"

    def file(self, file):
        yield file not in self.kinds, "absent"
        yield self.kinds[file] != "file", "kind"

    def place(self, folder, name):
        yield from self.folder(folder)
        yield (folder, name) not in self.names, "absent"

    def dues(self, word, *parts):
        """All that can be due, in order; what stands behind one that is due is not asked."""
        if word == "make":
            folder, name, thing, _ = parts
            yield from self.folder(folder, new=True)
            yield (folder, name) in self.names, "there"
            yield thing != self.last + 1, "thing"
        if word == "write":
            file, start, signs = parts
            yield from self.file(file)
            yield start > len(self.worth[file]), "size"
            yield len(self.worth[file][:start] + signs + self.worth[file][start + len(signs):]) > 200, "size"
        if word == "cut":
            yield from self.file(parts[0])
            yield parts[1] > len(self.worth[parts[0]]), "size"
        if word == "name":
            yield from self.folder(parts[0], new=True)
            yield parts[:2] in self.names, "there"
            yield from self.file(parts[2])
        if word == "strike":
            yield from self.place(*parts)
            yield self.holds(self.names[parts]), "full"
        if word == "mark":
            yield parts[0] not in self.kinds, "absent"
        if word == "move":
            yield from self.place(*parts[:2])
            yield from self.folder(parts[2], new=True)
            thing, gone = self.names[parts[:2]], self.names.get(parts[2:])
            yield thing == gone, "same"
            yield thing in self.above(parts[2]), "within"
            if gone is not None:
                kinds = [self.kinds[thing], self.kinds[gone]]
                yield kinds.count("folder") == 1, "kind"
                yield self.holds(gone), "full"
        if word == "exchange":
            yield from self.place(*parts[:2])
            yield from self.place(*parts[2:])
            one, two = self.names[parts[:2]], self.names[parts[2:]]
            yield one == two, "same"
            yield one in self.above(parts[2]) or two in self.above(parts[0]), "within"

    def refusal(self, change):
        return next((word for due, word in self.dues(*change) if due), None)

    def turn(self, *folders):
        for folder in set(folders):
            self.turns[folder] = self.turns.get(folder, 0) + 1

    def one(self, word, *parts):
        if word == "make":
            folder, name, thing, what = parts
            self.last = thing
            self.kinds[thing], self.marks[thing] = what[0], 0
            self.worth[thing] = {"folder": None, "file": "", "link": what[-1]}[what[0]]
            self.names[folder, name] = thing
        if word == "write":
            file, start, signs = parts
            text = list(self.worth[file])
            text[start:start + len(signs)] = signs
            self.worth[file] = "".join(text)
        if word == "cut":
            self.worth[parts[0]] = self.worth[parts[0]][:parts[1]]
        if word == "name":
            self.names[parts[:2]] = parts[2]
        if word == "strike":
            del self.names[parts]
        if word == "mark":
            self.marks[parts[0]] = parts[1]
        if word == "move":
            self.names[parts[2:]] = self.names.pop(parts[:2])
        if word == "exchange":
            self.names[parts[:2]], self.names[parts[2:]] = self.names[parts[2:]], self.names[parts[:2]]
        if word in ("make", "name", "strike"):
            self.turn(parts[0])
        if word in ("move", "exchange"):
            self.turn(parts[0], parts[2])

    def do(self, change):
        """None, or the word with which the change is refused."""
        kept = copy.deepcopy(vars(self))
        for part in (change[1] if change[0] == "all" else (change,)):
            word = self.refusal(part)
            if word is not None:
                vars(self).update(kept)
                return word
            self.one(*part)
        return None

    def told(self):
        """All that a tree tells of its things."""
        rows = []
        for thing in sorted(self.kinds):
            places = sorted(place for place, other in self.names.items() if other == thing)
            names = {place[1]: other for place, other in self.names.items() if place[0] == thing}
            turns = self.turns.get(thing, 0)
            rows.append((thing, self.kinds[thing], self.worth[thing], self.marks[thing], places, names, turns))
        return rows, self.last


def told(tree):
    """The same of a Tree."""
    rows = []
    for thing in tree.things():
        kind = tree.kind(thing)
        worth = {"folder": lambda _: None, "file": tree.text, "link": tree.target}[kind](thing)
        names = tree.names(thing) if kind == "folder" else {}
        turns = tree.turns(thing) if kind == "folder" else 0
        rows.append((thing, kind, worth, tree.mark(thing), tree.places(thing), names, turns))
    return rows, tree.last()


def behind(trees, entry):
    """The tree behind an entry that can be done, by those as at each moment ahead of it."""
    if entry[0] == "cut back":
        tree = copy.deepcopy(trees[entry[1]])
        tree.last = trees[-1].last
        return tree
    tree = copy.deepcopy(trees[-1])
    assert tree.do(entry) is None
    return tree


def at_each_moment(row):
    """What trees tell as at each moment of a row that can be led through."""
    trees = [Naive()]
    for entry in row:
        trees.append(behind(trees, entry))
    return [tree.told() for tree in trees]


def some_change(chance, last, names="abc"):
    """A change of the right form, many of them such as can be done, others not."""
    def thing():
        return chance.randrange(last + 3)

    def name():
        return chance.choice(names)

    def what():
        return chance.choice((("folder",), ("folder",), ("file",), ("link", chance.choice(("a", "/", "../b")))))

    def signs():
        return "".join(chance.choice("xy \n") for _ in range(chance.choice((0, 1, 3, 90))))

    word = chance.choice(("make", "make", "write", "cut", "name", "strike", "move", "move", "exchange", "mark"))
    number = last + 1 if chance.random() < 0.9 else thing()
    parts = {
        "make": lambda: (thing(), name(), number, what()),
        "write": lambda: (thing(), chance.choice((0, 0, 1, 50, 150)), signs()),
        "cut": lambda: (thing(), chance.choice((0, 1, 60))),
        "name": lambda: (thing(), name(), thing()),
        "strike": lambda: (thing(), name()),
        "move": lambda: (thing(), name(), thing(), name()),
        "exchange": lambda: (thing(), name(), thing(), name()),
        "mark": lambda: (thing(), chance.randrange(1000)),
    }[word]()
    return (word, *parts)
