"""Who waits for whom among locks, in rings too, and who is to give way."""

from onehistory.locks import bars, is_who


def waits_for(locks):
    """From who waits, in order, to a sorted list of those it waits for."""
    held = locks.held()
    asks = locks.waiting()
    found = {}
    for number, ask in enumerate(asks):
        barring = {lock[3]: True for lock in held + asks[:number] if bars(lock, ask)}
        found[ask[3]] = sorted(barring)
    return found


def rings(locks):
    """The greatest lots, sorted, of which each is come to from each."""
    waited = waits_for(locks)
    reached = {who: _come_to(waited, who) for who in waited}
    lots = []
    for who in waited:
        lot = sorted([other for other in reached[who] if who in reached.get(other, {})])
        # Who is in a ring comes to itself; of each ring the least one tells the lot.
        if lot and lot[0] == who:
            lots.append(lot)
    return sorted(lots)


def to_give_way(locks):
    """The least of each ring, rising."""
    return sorted([lot[0] for lot in rings(locks)])


def is_ring(locks, thing):
    """Whether a thing, of anything, is a list of those of whom each waits for the next, the last for the first."""
    if not isinstance(thing, list) or len(thing) < 2 or not all([is_who(one) for one in thing]):
        return False
    if len(set(thing)) != len(thing):
        return False
    waited = waits_for(locks)
    following = thing[1:] + thing[:1]
    return all([other in waited.get(one, []) for one, other in zip(thing, following)])


def _come_to(waited, who):
    """All that are come to from somebody, going on from one to those it waits for."""
    met = {}
    ahead = list(waited[who])
    while ahead:
        one = ahead.pop()
        if one not in met:
            met[one] = True
            ahead.extend(waited.get(one, []))
    return met
