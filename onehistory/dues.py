"""With which word a single change of the right form is refused in a tree as it is."""

from onehistory.names import MOST_SIGNS


def _folder(things, folder):
    if folder not in things.kind_of:
        return "absent"
    return None if things.kind_of[folder] == "folder" else "kind"


def _taking_folder(things, folder):
    word = _folder(things, folder)
    if word is None and things.is_loose(folder):
        return "loose"
    return word


def _file(things, file):
    if file not in things.kind_of:
        return "absent"
    return None if things.kind_of[file] == "file" else "kind"


def _place(things, folder, name):
    word = _folder(things, folder)
    if word is None and name not in things.names_in[folder]:
        return "absent"
    return word


def _new_place(things, folder, name):
    word = _taking_folder(things, folder)
    if word is None and name in things.names_in[folder]:
        return "there"
    return word


def _make(things, folder, name, thing, what):
    word = _new_place(things, folder, name)
    if word is None and thing != things.greatest + 1:
        return "thing"
    return word


def _write(things, file, start, signs):
    word = _file(things, file)
    if word is None and (start > len(things.text_of[file]) or start + len(signs) > MOST_SIGNS):
        return "size"
    return word


def _cut(things, file, size):
    word = _file(things, file)
    if word is None and size > len(things.text_of[file]):
        return "size"
    return word


def _name(things, folder, name, file):
    word = _new_place(things, folder, name)
    return _file(things, file) if word is None else word


def _strike(things, folder, name):
    word = _place(things, folder, name)
    if word is None and things.names_in.get(things.names_in[folder][name]):
        return "full"
    return word


def _move(things, folder, name, to, new):
    word = _place(things, folder, name)
    if word is None:
        word = _taking_folder(things, to)
    if word is not None:
        return word
    thing = things.names_in[folder][name]
    gone = things.names_in[to].get(new)
    if gone == thing:
        return "same"
    if to in things.reached(thing):
        return "within"
    return None if gone is None else _put_over(things, thing, gone)


def _put_over(things, thing, gone):
    if (things.kind_of[thing] == "folder") != (things.kind_of[gone] == "folder"):
        return "kind"
    return "full" if things.names_in.get(gone) else None


def _exchange(things, folder, name, other, more):
    word = _place(things, folder, name)
    if word is None:
        word = _place(things, other, more)
    if word is not None:
        return word
    one = things.names_in[folder][name]
    two = things.names_in[other][more]
    if one == two:
        return "same"
    if other in things.reached(one) or folder in things.reached(two):
        return "within"
    return None


def _mark(things, thing, number):
    return None if thing in things.kind_of else "absent"


DUES = {
    "make": _make,
    "write": _write,
    "cut": _cut,
    "name": _name,
    "strike": _strike,
    "move": _move,
    "exchange": _exchange,
    "mark": _mark,
}


def due(things, change):
    """The first word that is due, None where the change can be done."""
    asked = DUES[change[0]]
    parts = change[1:]
    return asked(things, *parts)
