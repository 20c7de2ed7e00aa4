"""Whether what an asking was answered that was begun, and came to its end, is true of a row."""

from onehistory.archive_rows import read_archive
from onehistory.asking import COPY, DONE, GOING, UNPACK, WALK, answer_at_once
from onehistory.owned import just_the_same
from onehistory.pieces import NAMES, THING, reading
from onehistory.refusals import REFUSED, answered, is_refused, refused_as
from onehistory.roads import place_of
from onehistory.walks import lets_walk
from onehistory.whole import is_count


def is_true_at_end(site, asker, ask, answer, span):
    """Whether an answer, and its pieces, are true at a house of which nothing fell since it was begun."""
    word = ask[0]
    if word == GOING:
        return _is_gone(site, asker, ask, answer, span)
    if is_refused(answer):
        return not refused_as(answer, "Fallen") and span[2] == []
    if word == WALK:
        return _is_walked(site, ask, answer, span)
    if word == UNPACK:
        return _is_unpacked(ask, answer, span)
    if word == COPY:
        return _is_copied(site, answer, span)
    return just_the_same(answer, DONE) and span[2] == [] and _is_whole_now(site, ask, span)


def is_fallen_now(homes, falls, answer, span):
    """Whether an answer is the refusal by the first of some houses that fell more often than so."""
    fell = [home for home, many in zip(homes, falls) if home.falls() != many]
    return just_the_same(answer, (REFUSED, "Fallen", (fell[0].moment(),))) and span[2] == []


def _is_gone(site, asker, ask, answer, span):
    """A road, or its fault, is due at the last moment."""
    due = answered(answer_at_once, site, asker, ("road", ask[1]))
    return just_the_same(answer, due) and span[2] == ([] if is_refused(due) else [span[1]])


def _lie_within(moments, earliest, latest):
    """Whether moments never fall, from the earliest one to the latest one."""
    ahead = [earliest, *moments]
    return all([one <= other for one, other in zip(ahead, [*moments, latest])])


def _is_walked(site, ask, answer, span):
    if not lets_walk(site.home.row(), answer, at=ask[1]):
        return False
    return [listing[2] for listing in answer] == span[2] and _lie_within(span[2], span[0], span[1])


def _is_unpacked(ask, answer, span):
    if not just_the_same(answer, span[2]) or len(answer) != len(read_archive(ask[2])):
        return False
    return _lie_within(span[2], span[0] + 1, span[1])


def _is_copied(site, answer, span):
    if not isinstance(answer, tuple) or len(answer) != 3:
        return False
    pieces, left, as_at = answer
    if not isinstance(pieces, list) or pieces == [] or not all([_is_piece(piece) for piece in pieces]):
        return False
    if not isinstance(left, list) or not all([is_count(thing) for thing in left]):
        return False
    if [piece[2] for piece in pieces] != span[2] or not _lie_within(span[2], span[0], span[1]):
        return False
    readings = [reading(site.home.tree(moment), word, thing) for word, thing, moment in pieces]
    if None in readings:
        return False
    last = site.home.tree(pieces[-1][2])
    alike = all([reading(last, piece[0], piece[1]) == told for piece, told in zip(pieces, readings)])
    return just_the_same(as_at, pieces[-1][2] if alike else None)


def _is_piece(thing):
    if not isinstance(thing, tuple) or len(thing) != 3 or not isinstance(thing[0], str):
        return False
    return thing[0] in (NAMES, THING) and is_count(thing[1]) and is_count(thing[2])


def _is_whole_now(site, ask, span):
    """Whether a text was written whole at its path; what is kept by that is kept from now on."""
    _, path, text, aside = ask
    folder, name = place_of(site.home.tree(span[0]), path)
    made = {}
    writes = []
    moved = 0
    row = site.home.row()
    for number in range(span[0], len(row)):
        entry = row[number]
        if entry[:3] == ("make", folder, aside):
            made[entry[3]] = True
        elif entry[0] == "write" and entry[1] in made and entry[2:] == (0, text):
            writes.append((number, entry[1]))
        elif entry == ("move", folder, aside, folder, name):
            moved = number
    ahead = [(number, file) for number, file in writes if number < moved]
    if not ahead:
        return False
    first, file = ahead[0]
    if all([one == file for _, one in ahead]):
        site.disk.keep_so(file, first + 1)
    else:
        site.disk.keep_names()
    return True
