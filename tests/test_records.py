"""Point 32: records, which of them knew which, and what is none."""

import random
import unittest

from onehistory.hands import Hand, meet
from onehistory.records import are_records, knows
from tests.naive_folding import some_records
from tests.test_tree import FILE, FOLDER
from tests.things import ODD

LINK = ("link", "..")
# Hand 0 makes a folder, a file and writes; hand 1 knows it all and does each deed; hand 2 knows nothing of it.
RECORDS = [
    (0, 1, 1, (0, 0, 0), ("make", None, "d", FOLDER)),
    (0, 2, 2, (1, 0, 0), ("make", (0, 1), "f", FILE)),
    (0, 3, 3, (2, 0, 0), ("text", (0, 2), "x")),
    (0, 4, 4, (3, 0, 0), ("make", None, "l", LINK)),
    (0, 5, 5, (4, 0, 0), ("name", (0, 2), None, "g")),
    (1, 1, 6, (5, 0, 0), ("mark", (0, 3), 7)),
    (1, 2, 7, (5, 1, 0), ("strike", (0, 5))),
    (1, 3, 8, (5, 2, 0), ("move", (0, 2), None, "h")),
    (1, 4, 9, (5, 3, 0), ("exchange", (0, 4), (0, 1), "k", (0, 3), None, "l")),
    (2, 1, 1, (0, 0, 0), ("make", None, "d", FOLDER)),
    (2, 2, 2, (0, 0, 1), ("mark", None, 999)),
]


def bent(number, place, worth):
    """The records with another worth at a place of one of them."""
    row = list(RECORDS[number])
    row[place] = worth
    return RECORDS[:number] + [tuple(row)] + RECORDS[number + 1:]


def with_deed(deed):
    """The records with one more behind that knows all of hands 0 and 1."""
    return RECORDS[:9] + [(1, 5, 10, (5, 4, 0), deed)] + RECORDS[9:]


class TestAreRecords(unittest.TestCase):
    def test_these_are(self):
        self.assertIs(are_records([]), True)
        self.assertIs(are_records(thing=RECORDS), True)
        for many in range(1, 10):
            self.assertIs(are_records(RECORDS[:many]), True)
        self.assertIs(are_records(RECORDS[9:]), True)

    def test_anything_else(self):
        for thing in (*ODD, (), tuple(RECORDS), "", RECORDS[0], [RECORDS]):
            if thing != []:
                self.assertIs(are_records(thing), False, thing)
        for thing in ODD:
            self.assertIs(are_records([thing]), False, thing)
            self.assertIs(are_records([*RECORDS, thing]), False, thing)
            for place in range(5):
                for number in range(len(RECORDS)):
                    self.assertIs(are_records(bent(number, place, thing)), False, (number, place, thing))
        self.assertIs(are_records([list(row) for row in RECORDS]), False)
        self.assertIs(are_records([row[:4] for row in RECORDS]), False)
        self.assertIs(are_records([(*row, None) for row in RECORDS]), False)

    def test_true_is_no_number(self):
        one = [(1, 1, 1, (0, 0, 0), ("make", None, "d", FOLDER))]
        self.assertIs(are_records(one), True)
        for place in (0, 1, 2):
            row = list(one[0])
            row[place] = True
            self.assertIs(are_records([tuple(row)]), False)
        self.assertIs(are_records(bent(0, 3, (False, 0, 0))), False)
        self.assertIs(are_records(bent(1, 3, (True, 0, 0))), False)
        self.assertIs(are_records(bent(10, 4, ("mark", None, True))), False)
        self.assertIs(are_records(bent(1, 4, ("make", (0, True), "f", FILE))), False)
        self.assertIs(are_records(bent(1, 4, ("make", (False, 1), "f", FILE))), False)

    def test_sorted_none_twice(self):
        for number in range(len(RECORDS)):
            twice = RECORDS[:number + 1] + RECORDS[number:]
            self.assertIs(are_records(twice), False)
            self.assertIs(are_records(RECORDS[:number] + RECORDS[number + 1:]), number in (8, 10))
        for number in range(len(RECORDS) - 1):
            turned = list(RECORDS)
            turned[number:number + 2] = turned[number + 1], turned[number]
            self.assertIs(are_records(turned), False)
        self.assertIs(are_records(RECORDS[::-1]), False)
        # Two of one number, unlike.
        self.assertIs(are_records(RECORDS + [(2, 2, 2, (0, 0, 1), ("mark", None, 1))]), False)
        other = [(0, 1, 1, (0, 0, 0), ("make", None, "a", FOLDER)), (0, 1, 1, (0, 0, 0), ("make", None, "b", FOLDER))]
        self.assertIs(are_records(other), False)

    def test_counts_and_what_one_knew(self):
        for number, row in enumerate(RECORDS):
            for count in (0, -1, row[2] - 1, row[2] + 1, 10 ** 29):
                self.assertIs(are_records(bent(number, 2, count)), False)
            for place in range(3):
                for more in (-1, 1, 9):
                    knew = list(row[3])
                    knew[place] += more
                    # Nobody knew the last ones of hands 1 and 2: these may have known one more with a lesser count.
                    due = (number, place, more) in ((8, 2, 1), (10, 0, 1))
                    self.assertIs(are_records(bent(number, 3, tuple(knew))), due, (number, knew))
            for knew in (row[3][:2], (*row[3], 0), list(row[3])):
                self.assertIs(are_records(bent(number, 3, knew)), False)
        # What one knew that isn't there, of another hand and of its own.
        self.assertIs(are_records(RECORDS[5:]), False)
        self.assertIs(are_records(RECORDS[1:9]), False)
        # All that these knew, too: 2 knows 1, which knew 0.
        rows = [(0, 1, 1, (0, 0, 0), ("mark", None, 1)), (1, 1, 2, (1, 0, 0), ("mark", None, 1))]
        self.assertIs(are_records(rows + [(2, 1, 3, (1, 1, 0), ("mark", None, 1))]), True)
        self.assertIs(are_records(rows + [(2, 1, 3, (0, 1, 0), ("mark", None, 1))]), False)
        # Its own ahead knew more than it does.
        self.assertIs(are_records(rows + [(1, 2, 3, (1, 1, 0), ("mark", None, 1))]), True)
        self.assertIs(are_records(rows + [(1, 2, 3, (0, 1, 0), ("mark", None, 1))]), False)
        # Each knew the other one.
        ring = [(0, 1, 2, (0, 1, 0), ("mark", None, 1)), (1, 1, 2, (1, 0, 0), ("mark", None, 1))]
        self.assertIs(are_records(ring), False)
        # The greatest of those that it knew, whichever hand's it is.
        rows = [(0, 1, 1, (0, 0, 0), ("mark", None, 1)), (0, 2, 2, (1, 0, 0), ("mark", None, 1)),
                (1, 1, 1, (0, 0, 0), ("mark", None, 1))]
        for count in (1, 2, 3, 4):
            self.assertIs(are_records(rows + [(1, 2, count, (2, 1, 0), ("mark", None, 1))]), count == 3)

    def test_hands_and_numbers(self):
        rows = [(0, 1, 1, (0, 0, 0), ("mark", None, 1))]
        for hand in (-1, 3, 10 ** 29):
            self.assertIs(are_records([(hand, *rows[0][1:])]), False)
        for number in (0, -1, 2, 10 ** 29):
            self.assertIs(are_records([(0, number, *rows[0][2:])]), False)

    def test_deeds(self):
        # Each with its parts as they may be, and what they may not be: (0, 1) a folder, (0, 2) a file, (0, 3) a
        # text, (0, 4) a link, (0, 5) a name, (1, 1) a mark, (1, 2) a strike, (1, 3) a move, (1, 4) an exchange.
        sorts = {
            "folder": ((None, (0, 1)), ((0, 2), (0, 3), (0, 4), (0, 5), (1, 1), (1, 2), (1, 4))),
            "file": (((0, 2), (0, 3)), (None, (0, 1), (0, 4), (0, 5), (1, 1), (1, 3))),
            "ahead": (((0, 2), (0, 3)), (None, (0, 1), (0, 4), (0, 5), (1, 2), (1, 4))),
            "thing": ((None, (0, 1), (0, 2), (0, 3), (0, 4)), ((0, 5), (1, 1), (1, 2), (1, 3), (1, 4))),
            "naming": (((0, 1), (0, 2), (0, 3), (0, 4), (0, 5)), (None, (1, 1), (1, 2), (1, 3), (1, 4))),
            "name": (("a", "abcdefgh"), ("", "A", "a/b", "..", "abcdefghi", None, 1, ("a",))),
            "what": ((FOLDER, FILE, LINK), (("link",), ("folder", "a"), ("link", "A"), ["file"], "file", (), None)),
            "mark": ((0, 999), (-1, 1000, True, None, "1")),
            "signs": (("", "a\n~", "x" * 200), ("x" * 201, "\t", None, 1, ["x"])),
        }
        deeds = {
            "make": ("folder", "name", "what"), "name": ("file", "folder", "name"), "text": ("ahead", "signs"),
            "mark": ("thing", "mark"), "strike": ("naming",), "move": ("naming", "folder", "name"),
            "exchange": ("naming", "folder", "name", "naming", "folder", "name"),
        }
        for word, parts in deeds.items():
            plain = [sorts[sort][0][0] for sort in parts]
            self.assertIs(are_records(with_deed((word, *plain))), True, word)
            for number, sort in enumerate(parts):
                for worth in sorts[sort][0]:
                    deed = (word, *plain[:number], worth, *plain[number + 1:])
                    self.assertIs(are_records(with_deed(deed)), True, deed)
                unknown = [(2, 1), (0, 6), (1, 5), (1, 6), (3, 1), (0, 0), (0, 1, 0), [0, 1], (0,), "01", True]
                for worth in (*sorts[sort][1], *(unknown if sort not in ("name", "what", "mark", "signs") else ())):
                    deed = (word, *plain[:number], worth, *plain[number + 1:])
                    self.assertIs(are_records(with_deed(deed)), False, deed)
            for deed in ((word, *plain[1:]), (word, *plain, "a"), [word, *plain], (word.upper(), *plain), (word,)):
                self.assertIs(are_records(with_deed(deed)), False, deed)
        for deed in ((), ("all", ()), ("write", (0, 2), 0, "x"), ("cut", (0, 2), 0), (None,), (1, 2)):
            self.assertIs(are_records(with_deed(deed)), False, deed)

    def test_of_a_hand_and_by_chance(self):
        one, other = Hand(0), Hand(2)
        one.do(("all", (("make", 0, "a", 1, FILE), ("write", 1, 0, "x"))))
        meet(one, other)
        other.do(("cut", 1, 0))
        for hand in (one, other):
            self.assertIs(are_records(hand.records()), True)
        for seed in range(100):
            chance = random.Random(seed)
            records = some_records(chance, 20)
            self.assertIs(are_records(records), True)
            number = chance.randrange(len(records))
            row = list(records[number])
            row[2] += chance.choice((-1, 1))
            self.assertIs(are_records(records[:number] + [tuple(row)] + records[number + 1:]), False)


class TestKnows(unittest.TestCase):
    def test_which_knew_which(self):
        for one in RECORDS:
            for other in RECORDS:
                due = other[1] <= one[3][other[0]]
                self.assertIs(knows(record=one, other=other), due)
        self.assertIs(knows(RECORDS[5], RECORDS[4]), True)
        self.assertIs(knows(RECORDS[4], RECORDS[5]), False)
        self.assertIs(knows(RECORDS[0], RECORDS[0]), False)
        self.assertIs(knows(RECORDS[8], RECORDS[9]), False)
        self.assertIs(knows(RECORDS[10], RECORDS[9]), True)


if __name__ == "__main__":
    unittest.main()
