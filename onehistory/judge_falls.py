"""Whether what a row tells of a fall may have come of it."""

from onehistory.falling import Anew, changes_in, file_counted_to
from onehistory.owned import just_the_same
from onehistory.rows import CUT_BACK


def is_fall_of(site, entries, answer):
    """Whether a house may have fallen by these entries, and be answered so."""
    home = site.home
    kept = site.disk.told_kept()
    if not entries or entries[0][0] != CUT_BACK or entries[0][1] < kept.begin:
        return False
    if not just_the_same(answer, home.moment() + len(entries)):
        return False
    row = home.row()
    gone = [(number, row[number]) for number in range(entries[0][1], len(row))]
    return Left(kept, gone, entries[1:], home.now().last()).is_due()


class Left:
    """What is left behind a fall of entries that were cut away, tuples (number, entry)."""

    def __init__(self, kept, gone, left, last):
        self._kept_ones = kept
        self._gone = gone
        self._left = left
        self._last = last
        self._gone_names = [(number, entry) for number, entry in gone if file_counted_to(entry) is None]
        # How many entries of the names are left, and how many of each file, by its elder number.
        self._names = len([entry for entry in left if file_counted_to(entry) is None])
        self._many_of = {}
        # How many of each file are left whole.
        self._whole_of = {}

    def is_due(self):
        """Whether this may be left: beginnings of the names and of each file, all among it that was kept."""
        if self._names > len(self._gone_names):
            return False
        self._count_files()
        due = self._all_due()
        if len(due) != len(self._left):
            return False
        if not all([self._is_left(one, there) for one, there in zip(due, self._left)]):
            return False
        return self._has_kept_names() and self._has_kept_files()

    def _count_files(self):
        anew = Anew(self._last)
        for _, entry in self._gone_names[:self._names]:
            anew.put_anew(entry)
        elders = {new: elder for elder, new in anew.new_numbers().items()}
        for entry in self._left:
            file = file_counted_to(entry)
            if file is not None:
                elder = elders.get(file, file)
                self._many_of[elder] = self._many_of.get(elder, 0) + 1

    def _all_due(self):
        """What would be left whole: tuples (entry by new numbers, its file, whether it is the file's last one)."""
        anew = Anew(self._last)
        names = 0
        many_of = {}
        due = []
        for _, entry in self._gone:
            file = file_counted_to(entry)
            if file is None:
                names += 1
                if names <= self._names:
                    due.append((anew.put_anew(entry), None, False))
            else:
                many_of[file] = many_of.get(file, 0) + 1
                most = self._many_of.get(file, 0)
                if many_of[file] <= most:
                    due.append((anew.put_anew(entry), file, many_of[file] == most))
        return due

    def _is_left(self, due, there):
        """Whether an entry is there, of a file's last one perhaps some first signs."""
        entry, file, is_last = due
        if entry == there:
            self._whole_of[file] = self._whole_of.get(file, 0) + 1
            return True
        if not is_last or entry[0] != "write" or entry[:3] != there[:3]:
            return False
        return 0 < len(there[3]) < len(entry[3]) and entry[3].startswith(there[3])

    def _has_kept_names(self):
        lost = self._gone_names[self._names:]
        return not any([number < self._kept_ones.names_until for number, _ in lost])

    def _has_kept_files(self):
        lost = [change[3] for _, entry in self._gone_names[self._names:] for change in changes_in(entry)
                if change[0] == "make"]
        due_of = {}
        for number, entry in self._gone:
            file = file_counted_to(entry)
            if file is not None and file not in lost and number < self._kept_ones.files_until.get(file, 0):
                due_of[file] = due_of.get(file, 0) + 1
        return all([many <= self._whole_of.get(file, 0) for file, many in due_of.items()])
