"""The rows of archives: how they are written, and read.

A row read is a tuple (kind, path, mark, worth): worth a file's text, a link's path, of `again` the other path."""

from onehistory.changes import MOST_MARK
from onehistory.errors import NoArchive
from onehistory.names import HERE, MOST_SIGNS, TOP, is_path, is_signs

MOST_ROWS = 200
MOST_FIGURES = 3
FIRST_WORD = "archive"
BLANK = " "
END = "\n"

# What the words of a row tell, behind its kind.
WORDS = {
    "folder": ("mark", "path"),
    "link": ("mark", "path", "path"),
    "file": ("mark", "size", "path"),
    "again": ("path", "path"),
}


def archive_of(rows):
    """The archive of rows that are written."""
    return f"{FIRST_WORD} {len(rows)}{END}" + "".join(rows)


def written(row):
    """A row, as it stands in an archive."""
    kind, path, mark, worth = row
    if kind == "folder":
        return f"{kind} {mark} {path}{END}"
    if kind == "link":
        return f"{kind} {mark} {path} {worth}{END}"
    if kind == "again":
        return f"{kind} {path} {worth}{END}"
    return f"{kind} {mark} {len(worth)} {path}{END}{worth}{END}"


def read_archive(text):
    """The rows of an archive, or NoArchive, of anything."""
    many, rows, behind = read_whole_rows(text)
    if len(rows) < many:
        raise NoArchive(len(rows) + 1)
    if behind < len(text):
        raise NoArchive(many + 1)
    return rows


def read_whole_rows(text):
    """How many rows are told, those at the beginning that are whole, and where in the text they end."""
    if not isinstance(text, str):
        raise NoArchive(None)
    words, behind = _words_from(text, 0)
    many = _number(words[1], MOST_ROWS) if len(words) == 2 and words[0] == FIRST_WORD else None
    if many is None or many == 0:
        raise NoArchive(0)
    rows = []
    row, further = _row_from(text, behind, True)
    while row is not None and len(rows) < many:
        rows.append(row)
        behind = further
        row, further = _row_from(text, behind, False)
    return many, rows, behind


def _words_from(text, start):
    """The words up to the next line feed, none where there is no such, and where the text goes on behind it."""
    end = text.find(END, start)
    if end < 0:
        return [], start
    return text[start:end].split(BLANK), end + 1


def _row_from(text, start, first):
    """The row that begins there, None where none does, and where it ends."""
    words, behind = _words_from(text, start)
    values = _values(words)
    if values is None:
        return None, start
    kind = words[0]
    if kind == "file":
        mark, size, path = values
        worth, behind = _text_from(text, behind, size)
        if worth is None:
            return None, start
    elif kind == "again":
        mark, path, worth = (None, *values)
    elif kind == "link":
        mark, path, worth = values
    else:
        mark, path, worth = (*values, None)
    if not _is_in_turn(kind, path, first):
        return None, start
    return (kind, path, mark, worth), behind


def _text_from(text, start, size):
    """The signs that stand there with a line feed behind them, None where none such do, and where that ends."""
    end = start + size
    signs = text[start:end]
    if not is_signs(signs) or text[end:end + 1] != END:
        return None, start
    return signs, end + 1


def _is_in_turn(kind, path, first):
    """Whether the first row is that of the folder that is packed, and no other one is told as that."""
    if first:
        return kind == "folder" and path == HERE
    return path not in (HERE, TOP)


def _values(words):
    """What the words of a row tell behind its kind, None where they are none."""
    if not words or words[0] not in WORDS or len(words) != len(WORDS[words[0]]) + 1:
        return None
    values = [_value(sort, word) for sort, word in zip(WORDS[words[0]], words[1:])]
    return None if None in values else values


def _value(sort, word):
    if sort == "mark":
        return _number(word, MOST_MARK)
    if sort == "size":
        return _number(word, MOST_SIGNS)
    return word if is_path(word) else None


def _number(word, most):
    """The number that figures tell, None where they are none, or tell more than most."""
    if not 1 <= len(word) <= MOST_FIGURES or word != "0" and word.startswith("0"):
        return None
    if not all(["0" <= figure <= "9" for figure in word]):
        return None
    number = int(word)
    return number if number <= most else None
