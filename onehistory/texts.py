"""Rows of worlds, written as texts and read from them."""

from onehistory.asking import has_all, has_word, sorts_at_once, sorts_begun
from onehistory.changes import is_what
from onehistory.errors import NoText, NoWeaving
from onehistory.globs import is_pattern
from onehistory.names import is_path, is_signs
from onehistory.weaving import BEGIN, DO, word_of
from onehistory.whole import is_count

BLANK = " "
END = "\n"
MOST_FIGURES = 9
# The greatest number of so many figures.
GREATEST = 999999999
NO_END = "-"
LINK = "link:"
NO_SIGNS = "\\e"
TRUTHS = {"yes": True, "no": False}
# Signs that would part words or rows, and that by which they are told, each with how it is written.
ESCAPES = (("\\", "\\\\"), (" ", "\\s"), ("\n", "\\n"))
# What stands behind each row's word, ahead of what is asked.
NUMBERS = {
    "do": ("number", "number"),
    "begin": ("number", "number"),
    "step": ("number",),
    "fall": ("number", "number"),
}
ALL = "all"
KEEP_NAMES = "keep names"
KEEP_NAMES_WRITTEN = "keep-names"


def shown(rows):
    """The text of rows, or NoWeaving."""
    if not isinstance(rows, list):
        raise NoWeaving(None)
    written = []
    for number, row in enumerate(rows):
        words = _row_words(row)
        if None in words:
            raise NoWeaving(number)
        written.append(" ".join(words))
    return "\n".join(written)


def read_rows(text):
    """The rows that a text tells, or NoText, of anything."""
    if not isinstance(text, str):
        raise NoText(0)
    rows = []
    for number, line in enumerate(text.split(END) if text else []):
        row = _row_of(line.split(BLANK))
        if row is None:
            raise NoText(number)
        rows.append(row)
    return rows


def number_read(word):
    """The number that figures tell, None where they are none."""
    if not 1 <= len(word) <= MOST_FIGURES or word != "0" and word.startswith("0"):
        return None
    if not all(["0" <= figure <= "9" for figure in word]):
        return None
    return int(word)


def _row_words(row):
    """The words of a row, None in the stead of each that can't be written."""
    word = word_of(row)
    if word not in (DO, BEGIN):
        return [None] if word is None else [word, *_words_of(NUMBERS[word], row[1:])]
    ask = row[3]
    sorts = _sorts(word, ask[0]) if has_word(ask) else None
    if not has_all(ask, sorts):
        return [None]
    asked = KEEP_NAMES_WRITTEN if ask[0] == KEEP_NAMES else ask[0]
    return [word, *_words_of(NUMBERS[word], row[1:3]), asked, *_words_of(sorts, ask[1:])]


def _sorts(word, asked):
    """What is asked with by an ask's word in a row by its own word, None where such can't be written."""
    if asked == ALL:
        return None
    return sorts_at_once(asked) if word == DO else sorts_begun(asked)


def _words_of(sorts, things):
    return [_word(sort, thing) for sort, thing in zip(sorts, things)]


def _word(sort, thing):
    """How a thing is written, None where it can't be."""
    if sort == "path":
        return thing if is_path(thing) else None
    if sort == "pattern":
        return thing if is_pattern(thing) else None
    if sort == "what":
        return _what_word(thing)
    if sort == "truth":
        return _truth_word(thing)
    if sort == "signs":
        return _escaped(thing) if is_signs(thing) else None
    if sort == "text":
        return _escaped(thing) if _are_signs(thing) else None
    if sort == "end" and thing is None:
        return NO_END
    return f"{thing}" if is_count(thing) and thing <= GREATEST else None


def _what_word(thing):
    if not is_what(thing):
        return None
    return LINK + thing[1] if thing[0] == "link" else thing[0]


def _truth_word(thing):
    if thing is True:
        return "yes"
    return "no" if thing is False else None


def _are_signs(thing):
    """Whether a thing, of anything, is a text of signs, however long."""
    return isinstance(thing, str) and all([is_signs(sign) for sign in thing])


def _escaped(text):
    for sign, written in ESCAPES:
        text = text.replace(sign, written)
    return text if text else NO_SIGNS


def _row_of(words):
    """The row that words tell, None where they tell none."""
    if words[0] not in NUMBERS:
        return None
    sorts = NUMBERS[words[0]]
    numbers = _things_of(sorts, words[1:1 + len(sorts)])
    rest = words[1 + len(sorts):]
    if numbers is None:
        return None
    if words[0] not in (DO, BEGIN):
        return (words[0], *numbers) if rest == [] else None
    ask = _ask_of(words[0], rest)
    return None if ask is None else (words[0], *numbers, ask)


def _ask_of(word, words):
    """The ask that words tell in a row by its own word, None where they tell none."""
    if not words:
        return None
    asked = KEEP_NAMES if words[0] == KEEP_NAMES_WRITTEN else words[0]
    sorts = _sorts(word, asked)
    things = None if sorts is None else _things_of(sorts, words[1:])
    return None if things is None else (asked, *things)


def _things_of(sorts, words):
    """The things that words tell by their sorts, None where they are others, or not as many."""
    if len(words) != len(sorts):
        return None
    things = []
    for sort, word in zip(sorts, words):
        found = _read(sort, word)
        if not found:
            return None
        things.append(found[0])
    return things


def _read(sort, word):
    """A list with the thing that a word tells, an empty one where it tells none."""
    if sort == "path":
        return [word] if is_path(word) else []
    if sort == "pattern":
        return [word] if is_pattern(word) else []
    if sort == "what":
        what = ("link", word.removeprefix(LINK)) if word.startswith(LINK) else (word,)
        return [what] if is_what(what) else []
    if sort == "truth":
        return [TRUTHS[word]] if word in TRUTHS else []
    if sort in ("signs", "text"):
        return [text for text in _unescaped(word) if sort == "text" or is_signs(text)]
    if sort == "end" and word == NO_END:
        return [None]
    number = number_read(word)
    return [] if number is None else [number]


def _unescaped(word):
    """A list with the text that a word tells, an empty one where it is none."""
    if word == NO_SIGNS:
        return [""]
    signs = {written: sign for sign, written in ESCAPES}
    found = []
    place = 0
    while place < len(word):
        part = word[place:place + 2] if word[place] == "\\" else word[place]
        if len(part) == 2 and part not in signs or not _are_signs(part) or part == "\\":
            return []
        found.append(signs.get(part, part))
        place += len(part)
    return ["".join(found)] if found else []
