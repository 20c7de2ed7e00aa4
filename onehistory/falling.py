"""What the choices of a fall, and a fall done, are reckoned by."""

from onehistory.whole import is_whole

OF_A_FILE = ("write", "cut")
# Each change has a thing's number behind its word; these have another one behind the name that follows.
OF_TWO_THINGS = ("make", "name", "move", "exchange")


def changes_in(entry):
    """The single changes of a change, in order."""
    return entry[1] if entry[0] == "all" else (entry,)


def alters(entry, file):
    """Whether a change writes or cuts a file, be it among others."""
    return any([change[0] in OF_A_FILE and change[1] == file for change in changes_in(entry)])


def file_counted_to(entry):
    """The file to which an entry counts, None where it counts to the names."""
    return entry[1] if entry[0] in OF_A_FILE else None


class Kept:
    """What of a row's entries behind a moment is told kept: of the names, and of each file, the first ones."""

    def __init__(self, begin):
        self.begin = begin
        self.names_until = begin
        self.files_until = {}

    def twin(self):
        """The same, that goes on by itself."""
        other = Kept(self.begin)
        other.names_until = self.names_until
        other.files_until = dict(self.files_until)
        return other

    def keep_all_names(self, row):
        """All that counts to the names is kept."""
        self.names_until = len(row)

    def keep_file(self, row, file):
        """All that counts to a file is kept, and the names up to the last all that writes or cuts it."""
        self.files_until[file] = len(row)
        behind = range(self.names_until, len(row))
        alls = [number for number in behind if row[number][0] == "all" and alters(row[number], file)]
        if alls:
            self.names_until = alls[-1] + 1

    def keep_file_until(self, file, until):
        """What counts to a file ahead of a moment is kept."""
        self.files_until[file] = max(until, self.files_until.get(file, self.begin))

    def unsure(self, row):
        """What isn't kept: tuples (number, entry)."""
        found = [(number, row[number]) for number in range(self.begin, len(row))]
        return [(number, entry) for number, entry in found if number >= self._until(entry)]

    def _until(self, entry):
        file = file_counted_to(entry)
        return self.names_until if file is None else self.files_until.get(file, self.begin)


class Falling:
    """A row that may fall: which of its entries behind what is kept may be there, by each choice.

    A share is (file, least, widths): so many of the file's entries that aren't sure are there at least, then one
    more for each further width; a width is how many numbers of signs there can be of the next one."""

    def __init__(self, kept, row):
        self._row = row
        self._begin = kept.begin
        self._names = []
        self._own = {}
        self._alls = {}
        self._made_at = {}
        for number, entry in kept.unsure(row):
            self._count(number, file_counted_to(entry))
        for number in range(kept.begin, len(row)):
            self._look_into(number, row[number])

    def most_names(self):
        """How many of the names' entries aren't sure."""
        return len(self._names)

    def shares(self, names):
        """The share of each file that has one, rising, where so many of the names' entries are there."""
        lost = self._names_lost_from(names)
        return [self._share(file, lost) for file in sorted(self._own) if self._is_there(file, lost)]

    def is_choice(self, thing):
        """Whether a thing, of anything, is a choice."""
        if not isinstance(thing, tuple) or len(thing) != 2 or not is_whole(thing[0]):
            return False
        names, files = thing
        if not isinstance(files, tuple) or not 0 <= names <= len(self._names):
            return False
        shares = self.shares(names)
        if len(files) != len(shares):
            return False
        return all([_is_within(share, part) for share, part in zip(shares, files)])

    def left(self, choice):
        """Of each entry behind the beginning what is there: tuples (number, entry, what of it, or None)."""
        names, files = choice
        lost = self._names_lost_from(names)
        chosen = {file: (many, signs) for file, many, signs in files}
        rows = [(number, self._row[number]) for number in range(self._begin, len(self._row))]
        return [(number, entry, self._left_of(number, entry, lost, chosen)) for number, entry in rows]

    def _names_lost_from(self, names):
        """The moment from which on no entry of the names is there: all ahead of it are."""
        return self._names[names] if names < len(self._names) else len(self._row)

    def _count(self, number, file):
        if file is None:
            self._names.append(number)
        else:
            self._own.setdefault(file, []).append(number)

    def _look_into(self, number, entry):
        """What is made is kept in mind, and which files an all writes or cuts."""
        for change in changes_in(entry):
            if change[0] == "make":
                self._made_at[change[3]] = number
            elif change[0] in OF_A_FILE and entry[0] == "all":
                self._alls.setdefault(change[1], []).append(number)

    def _is_there(self, file, lost):
        """Whether a file is there, where the names' entries from a moment on aren't."""
        return file not in self._made_at or self._made_at[file] < lost

    def _share(self, file, lost):
        own = self._own[file]
        alls = self._alls.get(file, [])
        last = max([number for number in alls if number < lost], default=0)
        first = min([number for number in alls if number >= lost], default=len(self._row))
        least = len([number for number in own if number < last])
        most = len([number for number in own if number < first])
        return file, least, [_width(self._row[number]) for number in own[least:most]] + [1]

    def _left_of(self, number, entry, lost, chosen):
        file = file_counted_to(entry)
        if file is None:
            return entry if number < lost else None
        if not self._is_there(file, lost):
            return None
        own = self._own.get(file, [])
        if number not in own:
            return entry
        many, signs = chosen[file]
        place = own.index(number)
        if place == many and signs > 0:
            return entry[0], entry[1], entry[2], entry[3][:signs]
        return entry if place < many else None


class Anew:
    """Entries that are done anew, with new numbers of all that they make."""

    def __init__(self, last):
        self._last = last
        self._numbers = {}

    def put_anew(self, entry):
        """An entry by the new numbers, what it makes by one more each."""
        if entry[0] == "all":
            return "all", tuple([self._change(change) for change in entry[1]])
        return self._change(entry)

    def new_numbers(self):
        """The new numbers by the elder ones, rising."""
        return {elder: self._numbers[elder] for elder in sorted(self._numbers)}

    def _change(self, change):
        if change[0] == "make":
            self._last += 1
            self._numbers[change[3]] = self._last
        told = [change[0], self._new(change[1]), *change[2:]]
        if change[0] in OF_TWO_THINGS:
            told[3] = self._new(change[3])
        return tuple(told)

    def _new(self, thing):
        return self._numbers.get(thing, thing)


def how_many_in(share):
    """How many tuples (file, many, signs) there are of a share."""
    return sum(share[2])


def all_in(share):
    """All tuples of a share, sorted."""
    file, least, widths = share
    return [(file, least + more, signs) for more, width in enumerate(widths) for signs in range(width)]


def one_in(share, number):
    """The tuple of a share by its number, from 0, as they are sorted."""
    file, many, widths = share
    for width in widths:
        if number < width:
            break
        number -= width
        many += 1
    return file, many, number


def _is_within(share, thing):
    if not isinstance(thing, tuple) or len(thing) != 3 or not all([is_whole(part) for part in thing]):
        return False
    file, least, widths = share
    more = thing[1] - least
    return thing[0] == file and 0 <= more < len(widths) and 0 <= thing[2] < widths[more]


def _width(entry):
    """How many numbers of signs there can be of an entry that isn't there whole."""
    return max(1, len(entry[3])) if entry[0] == "write" else 1
