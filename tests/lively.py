"""Changes by chance of which most can be done, for trees that grow."""


def all_places(tree):
    return [place for thing in tree.things() for place in tree.places(thing)]


def of_kind(tree, *kinds):
    return [thing for thing in tree.things() if tree.kind(thing) in kinds]


def lively_change(chance, tree, names=("a", "b", "c"), most=14):
    """A change, most often one that can be done in the tree; few things are made where it has many."""
    places = all_places(tree)
    files = of_kind(tree, "file")
    folders = [folder for folder in of_kind(tree, "folder") if folder == 0 or tree.parent(folder) is not None]
    words = ["make"] * (4 if len(tree) < most else 0) + ["mark"]
    words += ["write", "write", "cut", "name"] * bool(files) + ["strike", "move", "move", "exchange"] * bool(places)
    word = chance.choice(words)
    if word == "make":
        what = chance.choice((("folder",), ("folder",), ("file",), ("file",), ("link", chance.choice(names))))
        return word, chance.choice(folders), chance.choice(names), tree.last() + 1, what
    if word == "write":
        file = chance.choice(files)
        return word, file, chance.randrange(len(tree.text(file)) + 1), chance.choice(("", "x", "yz", "long one"))
    if word == "cut":
        file = chance.choice(files)
        return word, file, chance.randrange(len(tree.text(file)) + 1)
    if word == "name":
        return word, chance.choice(folders), chance.choice(names), chance.choice(files)
    if word == "strike":
        return (word, *chance.choice(places))
    if word == "move":
        return (word, *chance.choice(places), chance.choice(folders), chance.choice(names))
    if word == "exchange":
        return (word, *chance.choice(places), *chance.choice(places))
    return word, chance.choice(tree.things()), chance.randrange(4)


def lively_entry(chance, tree, names=("a", "b", "c"), most=14):
    """A change or an all of a few that the tree can do, or None."""
    if chance.random() < 0.8:
        change = lively_change(chance, tree, names, most)
        return change if tree.can(change) else None
    twin = tree.twin()
    done = []
    for _ in range(chance.randrange(1, 5)):
        change = lively_change(chance, twin, names, most)
        if twin.can(change):
            twin.do(change)
            done.append(change)
    return ("all", tuple(done)) if done else None
