"""A second, plain telling of points 8 and 9: roads by states that are never changed, each step giving a new one."""

import collections

# thing: what it came to; chain: the folders that it came by, as nested pairs (folder, chain ahead), () of none;
# rest: the steps that are left; gone: the steps; links: how many were gone along; looks: pairs (folder, turns).
State = collections.namedtuple("State", "thing chain rest gone links looks")


class Lost(Exception):
    def __init__(self, word, gone, looks):
        super().__init__(word)
        self.word, self.gone, self.looks = word, gone, looks


def split(path):
    rest = [step for step in path.split("/") if step not in ("", ".")]
    return path[:1] == "/", tuple(rest)


def beginning(path, at, held):
    top, rest = split(path)
    return State(0 if top and not held else at, (), rest, (), 0, ())


def looking(state, tree, folder):
    if folder in dict(state.looks):
        return state
    return state._replace(looks=state.looks + ((folder, tree.turns(folder)),))


def upward(state, tree, held):
    folder = state.thing
    if state.chain:
        to, chain = state.chain
    elif held or folder == 0:
        to, chain = folder, ()
    elif not tree.places(folder):
        raise Lost("loose", state.gone, state.looks)
    else:
        to, chain = tree.places(folder)[0][0], ()
        state = looking(state, tree, to)
    return state._replace(thing=to, chain=chain, rest=state.rest[1:], gone=state.gone + ((folder, "..", to),))


def by_name(state, tree, at, held, follow):
    folder, name, rest = state.thing, state.rest[0], state.rest[1:]
    state = looking(state, tree, folder)
    if name not in tree.names(folder):
        raise Lost("absent", state.gone, state.looks)
    thing = tree.names(folder)[name]
    state = state._replace(thing=thing, rest=rest, gone=state.gone + ((folder, name, thing),))
    if tree.kind(thing) == "folder":
        return state._replace(chain=(folder, state.chain))
    if tree.kind(thing) == "file" or not rest and not follow:
        return state
    if state.links == 4:
        raise Lost("loops", state.gone, state.looks)
    top, more = split(tree.target(thing))
    state = state._replace(thing=folder, rest=more + rest, links=state.links + 1)
    if not top:
        return state
    return state._replace(thing=at if held else 0, chain=())


def stepped(state, tree, at, held, follow):
    if tree.kind(state.thing) != "folder":
        raise Lost("kind", state.gone, state.looks)
    if state.rest[0] == "..":
        return upward(state, tree, held)
    return by_name(state, tree, at, held, follow)


def naive_road(tree, path, at=0, held=False, follow=True):
    """(steps, found), or Lost."""
    state = beginning(path, at, held)
    while state.rest:
        state = stepped(state, tree, at, held, follow)
    return list(state.gone), state.thing


def naive_place(tree, path, at=0, held=False):
    """(folder, name), or Lost."""
    state = beginning(path, at, held)
    if not state.rest or state.rest[-1] == "..":
        raise Lost("form", (), ())
    name, state = state.rest[-1], state._replace(rest=state.rest[:-1])
    while state.rest:
        state = stepped(state, tree, at, held, True)
    if tree.kind(state.thing) != "folder":
        raise Lost("kind", state.gone, ())
    return state.thing, name


class NaiveGoing:
    """As point 9 tells it, by a house that never falls."""

    def __init__(self, house, path, at=0, held=False, follow=True):
        self.house, self.path, self.asked = house, path, (at, held, follow)
        self.state = beginning(path, at, held)
        self.anew, self.moment, self.end = 0, None, None

    def step(self):
        if self.end is not None:
            return False
        tree = self.house.tree()
        try:
            if self.state.rest:
                self.state = stepped(self.state, tree, *self.asked)
                return True
            end, looks = (list(self.state.gone), self.state.thing), self.state.looks
        except Lost as lost:
            end, looks = (lost.word, self.path, lost.gone), lost.looks
        if all(tree.turns(folder) == turns for folder, turns in looks):
            self.end, self.moment = end, self.house.moment()
            return False
        self.anew += 1
        self.state = beginning(self.path, self.asked[0], self.asked[1])
        return True
