"""Single changes, done in a tree in which they can be done."""


def _make(things, folder, name, thing, what):
    things.enter(thing, what)
    things.give(folder, name, thing)
    things.turn(folder, folder)


def _write(things, file, start, signs):
    text = things.text_of[file]
    things.text_of[file] = text[:start] + signs + text[start + len(signs):]


def _cut(things, file, size):
    things.text_of[file] = things.text_of[file][:size]


def _name(things, folder, name, file):
    things.give(folder, name, file)
    things.turn(folder, folder)


def _strike(things, folder, name):
    things.take(folder, name)
    things.turn(folder, folder)


def _move(things, folder, name, to, new):
    thing = things.take(folder, name)
    if new in things.names_in[to]:
        things.take(to, new)
    things.give(to, new, thing)
    things.turn(folder, to)


def _exchange(things, folder, name, other, more):
    one = things.take(folder, name)
    two = things.take(other, more)
    things.give(folder, name, two)
    things.give(other, more, one)
    things.turn(folder, other)


def _mark(things, thing, number):
    things.mark_of[thing] = number


DEEDS = {
    "make": _make,
    "write": _write,
    "cut": _cut,
    "name": _name,
    "strike": _strike,
    "move": _move,
    "exchange": _exchange,
    "mark": _mark,
}


def deed(things, change):
    """The change is done."""
    done = DEEDS[change[0]]
    parts = change[1:]
    done(things, *parts)
