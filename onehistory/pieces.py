"""Pieces that copies read: of a folder its names, of a thing what it is."""

NAMES = "names"
THING = "thing"


def reading(tree, word, thing):
    """What is read of a piece in a tree, None where the thing isn't there."""
    if thing not in tree.things():
        return None
    if word == NAMES:
        return tree.names(thing) if tree.kind(thing) == "folder" else None
    return tree.kind(thing), tree.mark(thing), _worth(tree, thing), has_no_place(tree, thing)


def has_no_place(tree, thing):
    """Whether a thing is loose."""
    return thing in tree.loose()


def _worth(tree, thing):
    kind = tree.kind(thing)
    if kind == "folder":
        return None
    return tree.text(thing) if kind == "file" else tree.target(thing)
