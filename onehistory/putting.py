"""Changes by which something becomes what it should be, and how several are done as one entry."""


def text_put(file, elder, newer):
    """The changes by which a file's elder text becomes the newer one, none where it is so already."""
    if newer == elder:
        return []
    if elder.startswith(newer):
        return [("cut", file, len(newer))]
    changes = [("write", file, 0, newer)]
    if len(newer) < len(elder):
        changes.append(("cut", file, len(newer)))
    return changes


def mark_put(thing, elder, newer):
    """The change by which a thing's elder mark becomes the newer one, none where it is so already."""
    return [] if newer == elder else [("mark", thing, newer)]


def what_of(tree, thing):
    """By what a thing like one of a tree is made."""
    kind = tree.kind(thing)
    return ("link", tree.target(thing)) if kind == "link" else (kind,)


def text_in(tree, thing):
    """A thing's text, none of what is no file."""
    return tree.text(thing) if tree.kind(thing) == "file" else ""


def done_as_one(house, changes):
    """Changes are done as one entry, none where there is none; told is the moment behind it."""
    if not changes:
        return house.moment()
    if len(changes) == 1:
        return house.change(changes[0])
    return house.do_all(changes)
