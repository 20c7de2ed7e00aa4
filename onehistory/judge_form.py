"""Of what form records and papers are, whatever they tell."""

from onehistory.asking import has_word
from onehistory.errors import NoRow
from onehistory.rows import History
from onehistory.weaving import FALL, is_asker, is_number_of
from onehistory.whole import is_count

MOST_HOUSES = 3


def are_formed(record, paper):
    """Whether things, of anything, are a record and a paper by their form."""
    if not isinstance(record, list) or not isinstance(paper, tuple) or len(paper) != 2:
        return False
    rows, spans = paper
    if not isinstance(rows, list) or not 1 <= len(rows) <= MOST_HOUSES or not all([_is_row(row) for row in rows]):
        return False
    if not isinstance(spans, list) or len(spans) != len(record) or not all([_is_span(span) for span in spans]):
        return False
    return all([_is_told(told, len(rows)) for told in record]) and _are_beats(record)


def is_led(row):
    """Whether entries, each with its beat, are by falling beats no more, and can be led through."""
    beats = [beat for beat, _ in row]
    if any([one > other for one, other in zip(beats, beats[1:])]):
        return False
    try:
        History([entry for _, entry in row])
    except NoRow:
        return False
    return True


def _is_row(thing):
    if not isinstance(thing, list):
        return False
    return all([isinstance(pair, tuple) and len(pair) == 2 and is_count(pair[0]) for pair in thing])


def _is_span(thing):
    if thing is None:
        return True
    if not isinstance(thing, tuple) or len(thing) != 3 or not isinstance(thing[2], list):
        return False
    return all([is_count(moment) for moment in [thing[0], thing[1], *thing[2]]])


def _is_told(thing, many):
    if not isinstance(thing, tuple) or len(thing) != 6:
        return False
    asker, begin, end, house, ask, answer = thing
    if not is_count(begin) or not is_number_of(house, many) or not has_word(ask):
        return False
    if end is None:
        return answer is None and is_asker(asker)
    if not is_count(end) or end < begin:
        return False
    if asker is None:
        return end == begin and _is_fall(ask)
    return is_asker(asker)


def _is_fall(ask):
    if ask[0] != FALL or len(ask) != 2 or not isinstance(ask[1], tuple) or len(ask[1]) != 2:
        return False
    names, files = ask[1]
    if not is_count(names) or not isinstance(files, tuple):
        return False
    return all([_are_three(part) for part in files])


def _are_three(thing):
    return isinstance(thing, tuple) and len(thing) == 3 and all([is_count(part) for part in thing])


def _are_beats(record):
    """Whether each begins behind the one ahead, and no beat is told twice."""
    begins = [told[1] for told in record]
    if any([one >= other for one, other in zip(begins, begins[1:])]):
        return False
    met = {begin: True for begin in begins}
    for told in record:
        end = told[2]
        if end is not None and end != told[1]:
            if end in met:
                return False
            met[end] = True
    return True
