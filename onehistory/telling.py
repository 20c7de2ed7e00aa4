"""How changes of a tree that is folded from records are told as deeds of more records."""


def tell(folded, change, hand, many):
    """A change is done, or NoChange; told are its deeds, by a hand that has so many records ahead of them."""
    folded.whole.twin().do(change)
    deeds = []
    for part in change[1] if change[0] == "all" else (change,):
        folded.whole.do(part)
        told = TELLINGS[part[0]]
        parts = part[1:]
        deeds.extend(told(folded, (hand, many + len(deeds) + 1), *parts))
    return deeds


def _make(folded, identity, folder, name, thing, what):
    folded.identity_of[thing] = identity
    folded.naming_at[folder, name] = identity
    if what[0] == "file":
        folded.text_record_of[thing] = identity
    return [("make", folded.identity_of[folder], name, what)]


def _write(folded, identity, file, _start, _signs):
    return _text(folded, identity, file)


def _cut(folded, identity, file, _size):
    return _text(folded, identity, file)


def _text(folded, identity, file):
    ahead = folded.text_record_of[file]
    folded.text_record_of[file] = identity
    return [("text", ahead, folded.whole.text(file))]


def _name(folded, identity, folder, name, file):
    folded.naming_at[folder, name] = identity
    return [("name", folded.identity_of[file], folded.identity_of[folder], name)]


def _strike(folded, _identity, folder, name):
    return [("strike", folded.naming_at.pop((folder, name)))]


def _move(folded, _identity, folder, name, to, new):
    naming = folded.naming_at.pop((folder, name))
    deeds = []
    if (to, new) in folded.naming_at:
        deeds.append(("strike", folded.naming_at[to, new]))
    folded.naming_at[to, new] = naming
    return [*deeds, ("move", naming, folded.identity_of[to], new)]


def _exchange(folded, _identity, folder, name, other, more):
    one = folded.naming_at[folder, name]
    two = folded.naming_at[other, more]
    folded.naming_at[folder, name] = two
    folded.naming_at[other, more] = one
    identities = folded.identity_of
    return [("exchange", one, identities[other], more, two, identities[folder], name)]


def _mark(folded, _identity, thing, number):
    return [("mark", folded.identity_of[thing], number)]


TELLINGS = {
    "make": _make,
    "write": _write,
    "cut": _cut,
    "name": _name,
    "strike": _strike,
    "move": _move,
    "exchange": _exchange,
    "mark": _mark,
}
