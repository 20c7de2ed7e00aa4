"""Point 38: what is amiss with a record and a paper."""

import copy
import random
import unittest

from onehistory.judge import amiss, lets_record
from onehistory.world import World
from tests.test_archives import archive
from tests.test_tree import FILE, FOLDER
from tests.things import ODD
from tests.weavings import drawn_world, some_row

TEXT = archive("folder 5 .", "folder 0 q", "file 0 1 q/f\nx")
# Of each kind of asking some, with what others do between.
ROWS = [
    ("do", 0, 0, ("all", (("make", 0, "d", 1, FOLDER), ("make", 1, "f", 2, FILE), ("write", 2, 0, "hello")))),
    ("begin", 1, 0, ("going", "d/f")),
    ("step", 1),
    ("do", 0, 0, ("mark", "d", 3)),
    ("step", 1),
    ("step", 1),
    ("begin", 1, 0, ("walk", 0)),
    ("step", 1),
    ("do", 2, 0, ("make", "d/e", FOLDER)),
    ("step", 1),
    ("step", 1),
    ("begin", 3, 0, ("whole", "d/f", "newer", "g")),
    ("step", 3),
    ("do", 0, 0, ("open", "d/f")),
    ("step", 3),
    ("begin", 1, 1, ("unpack", "/", TEXT)),
    ("step", 3),
    ("step", 1),
    ("step", 3),
    ("do", 0, 0, ("write", 0, 0, "H")),
    ("step", 1),
    ("step", 3),
    ("step", 1),
    ("begin", 2, 0, ("copy", "d", 1, "q")),
    ("step", 2),
    ("step", 2),
    ("step", 2),
    ("do", 0, 1, ("listed", "q")),
    ("step", 2),
    ("fall", 0, 0),
    ("begin", 0, 0, ("going", "x/y")),
    ("step", 0),
    ("do", 1, 0, ("read", "q")),
    ("begin", 2, 1, ("going", "q")),
]


def woven(rows=ROWS, many=2):
    world = World(many)
    world.play(rows)
    return world.record(), world.paper()


class Bending:
    """A true record and paper, bent at one place."""

    def __init__(self, rows=ROWS, many=2):
        self.record, self.paper = woven(rows, many)

    def field(self, number, place, worth):
        row = list(self.record[number])
        row[place] = worth
        self.record[number] = tuple(row)
        return self

    def moments(self, number, worth):
        self.paper[1][number] = worth
        return self

    def entries(self, house, worth):
        self.paper[0][house][:] = worth
        return self

    def found(self):
        told = amiss(record=self.record, paper=self.paper)
        assert lets_record(record=self.record, paper=self.paper) is (told is None)
        return told

    def number_of(self, word):
        return [number for number, told in enumerate(self.record) if told[4][0] == word][0]


class TestTrue(unittest.TestCase):
    def test_these_rows(self):
        for many in range(len(ROWS) + 1):
            self.assertIsNone(amiss(*woven(ROWS[:many])))
            self.assertIs(lets_record(*woven(ROWS[:many])), True)
        self.assertIsNone(amiss([], ([[]], [])))
        answers = {told[4][0]: told[5] for told in woven()[0] if told[2] != told[1]}
        self.assertEqual(sorted(answers), ["copy", "going", "unpack", "walk", "whole"])

    def test_drawn_ones_as_they_grow(self):
        for seed in range(40):
            chance = random.Random(seed)
            many = chance.randrange(1, 4)
            world = World(many)
            for _ in range(45):
                world.play([some_row(chance, world, many)])
                self.assertIsNone(amiss(world.record(), world.paper()))

    def test_drawn_ones_at_the_end(self):
        for seed in range(400):
            world, _ = drawn_world(random.Random(seed), 70)
            self.assertIsNone(amiss(world.record(), world.paper()), seed)

    def test_nothing_handed_in_is_changed(self):
        record, paper = woven()
        kept = copy.deepcopy((record, paper))
        amiss(record, paper)
        self.assertEqual((record, paper), kept)


class TestForm(unittest.TestCase):
    def form(self, record, paper):
        self.assertEqual(amiss(record, paper), ("form", None))
        self.assertIs(lets_record(record, paper), False)

    def test_anything(self):
        record, paper = woven()
        for thing in (*ODD, (), (record, paper), tuple(record)):
            if thing != []:
                self.form(thing, paper)
            self.form(record, thing)
            self.form(record, (thing, paper[1]))
            self.form(record, (paper[0], thing))
            self.form([*record, thing], (paper[0], [*paper[1], None]))
            self.form([thing, *record[1:]], paper)
            self.form(record, ([*paper[0], thing], paper[1])) if thing != [] else None
            self.form(record, ([[*paper[0][0], thing], paper[0][1]], paper[1]))
            if thing is not None:
                self.form(record, (paper[0], [thing, *paper[1][1:]]))
        self.form(record, list(paper))
        self.form(record, (*paper, []))
        self.form(record, paper[:1])
        self.form(record, (tuple(paper[0]), paper[1]))
        self.form(record, ([tuple(row) for row in paper[0]], paper[1]))
        self.form(record, (paper[0], tuple(paper[1])))
        self.form(record, (paper[0], paper[1][:-1]))
        self.form(record[:-1], paper)
        self.form([], ([], []))
        self.form([], ([[], [], [], []], []))
        self.assertIsNone(amiss([], ([[], [], []], [])))

    def test_of_a_told_row(self):
        record, _ = woven()
        for number, told in enumerate(record):
            for place in (0, 1, 2, 3, 4):
                for worth in (-1, 10 ** 29, "0", True, [], (), 0.5, [told[place]], (told[place],)):
                    if place == 4 and isinstance(worth, tuple) and worth and isinstance(worth[0], str):
                        continue
                    if place == 2 and worth == 10 ** 29:
                        continue
                    if place == 1 and worth == 10 ** 29 and told[2] is None:
                        continue
                    bending = Bending().field(number, place, worth)
                    self.assertEqual(bending.found(), ("form", None), (number, place, worth))
            for worth in (told[:5], (*told, None), list(told)):
                bending = Bending()
                bending.record[number] = worth
                self.assertEqual(bending.found(), ("form", None))

    def test_beats_askers_and_houses(self):
        # Numbers of the record: 0 all, 1 going, 2 mark, 3 walk, 4 make, 5 whole, 6 open, 7 unpack, 8 write, 9 copy ..
        cases = [
            (0, 0, 4), (0, 3, 2), (1, 0, None), (1, 2, 0), (2, 1, 1), (2, 1, 0), (1, 2, 3), (1, 2, 1000), (2, 2, 5), (9, 1, 0),
            (0, 0, None), (2, 2, 2),
        ]
        for number, place, worth in cases:
            bending = Bending().field(number, place, worth)
            due = ("form", None) if worth != 1000 else bending.found()
            self.assertEqual(bending.found(), due, (number, place, worth))
        # No answer without an end.
        last = len(Bending().record) - 1
        for answer in (0, False, "", [], "done"):
            self.assertEqual(Bending().field(last, 5, answer).found(), ("form", None))
        fall = Bending().number_of("fall")
        self.assertEqual(Bending().field(fall, 2, None).found(), ("form", None))
        self.assertEqual(Bending().field(fall, 2, 10 ** 9).found(), ("form", None))

    def test_a_falls_choice(self):
        fall = Bending().number_of("fall")
        for choice in (None, (), (0,), (0, ()) + (1,), [0, ()], (True, ()), ("0", ()), (0, []), (0, (1,)), (0, ((1, 2),)),
                       (0, ((1, 2, 3, 4),)), (0, ((1, 2, True),)), (0, ([1, 2, 3],)), (0, ((1, 2, None),))):
            self.assertEqual(Bending().field(fall, 4, ("fall", choice)).found(), ("form", None), choice)
        for ask in (("fall",), ("fall", (0, ()), 1), ("falls", (0, ())), ("make", "x", FILE)):
            self.assertEqual(Bending().field(fall, 4, ask).found(), ("form", None))
        # Any numbers from 0 on.
        for choice in ((0, ()), (99, ((1, 2, 3), (4, 5, 6))), (0, ((0, 0, 0),)), (10 ** 30, ((10 ** 30, 10 ** 30, 10 ** 30),))):
            self.assertIsNone(Bending().field(fall, 4, ("fall", choice)).found())

    def test_no_number_of_a_falls_choice_is_below_0(self):
        record, paper = [(None, 0, 0, 0, ("fall", (0, ((0, 0, 0),))), 1)], ([[(0, ("cut back", 0))]], [(1, 1, [])])
        self.assertIsNone(amiss(record, paper))
        good = (3, 2, 1)
        for below in (-1, -2, -10 ** 30):
            bent = [(*good[:place], below, *good[place + 1:]) for place in range(3)]
            choices = [(below, ()), (below, (good,)), *[(0, (three,)) for three in bent],
                       *[(0, (good, three)) for three in bent], *[(0, (three, good)) for three in bent]]
            for choice in choices:
                self.form([(None, 0, 0, 0, ("fall", choice), 1)], paper)
                bending = Bending()
                bending.field(bending.number_of("fall"), 4, ("fall", choice))
                self.form(bending.record, bending.paper)
        # A fall that an asker asks is told amiss, whatever its choice.
        asked = [(0, 0, 0, 0, ("fall", (-1, ())), 1)]
        self.assertEqual(amiss(asked, paper), ("told", 0))

    def test_moments_and_pairs(self):
        bending = Bending()
        for number in range(len(bending.record)):
            for worth in ((), (0, 0), (0, 0, [], 0), [0, 0, []], (True, 0, []), (0, None, []), (0, 0, ()), (0, 0, None),
                          (0, 0, [True]), (0, 0, ["0"]), (-1, 0, []), 0, False):
                self.assertEqual(Bending().moments(number, worth).found(), ("form", None), (number, worth))
        for pair in ((0,), [0, ("mark", 0, 1)], (0, ("mark", 0, 1), 0), (True, ("mark", 0, 1)), (None, ("mark", 0, 1)),
                     (-1, ("mark", 0, 1)), ("0", ("mark", 0, 1))):
            bending = Bending()
            bending.paper[0][1].append(pair)
            self.assertEqual(bending.found(), ("form", None))


class TestRow(unittest.TestCase):
    def test_rows_that_cannot_be_led(self):
        for house in (0, 1):
            for thing in (*ODD, ("make", 0, "d", 1, FOLDER), ("cut back", 10 ** 9), ("strike", 9, "a")):
                bending = Bending()
                bending.paper[0][house].append((10 ** 6, thing))
                self.assertEqual(bending.found(), ("row", house), thing)
        # By falling beats.
        for house in (0, 1):
            bending = Bending()
            row = bending.paper[0][house]
            self.assertEqual(bending.entries(house, row[:-1] + [(0, row[-1][1])]).found(), ("row", house))
        # The first house's goes first, and both ahead of all of the record.
        bending = Bending().field(0, 5, "untrue")
        bending.paper[0][1].append((99, None))
        self.assertEqual(bending.found(), ("row", 1))
        bending.paper[0][0].append((99, None))
        self.assertEqual(bending.found(), ("row", 0))
        bending.paper[1].append(None)
        self.assertEqual(bending.found(), ("form", None))


class TestSpan(unittest.TestCase):
    def test_busy_askers(self):
        # Asker 1 goes while asker 0 marks.
        bending = Bending().field(2, 0, 1)
        self.assertEqual(bending.found(), ("span", 2))
        # Ahead of what else is amiss there.
        bending = Bending().field(2, 0, 1).field(2, 5, "untrue").moments(2, None)
        self.assertEqual(bending.found(), ("span", 2))
        # Behind its end it isn't busy, ahead of it, it is.
        rows = [("begin", 1, 0, ("walk", 0)), ("step", 1), ("do", 1, 0, ("listed", "/"))]
        self.assertIsNone(Bending(rows, 1).found())
        bending = Bending(rows, 1).field(0, 2, 3)
        self.assertEqual(bending.found(), ("span", 1))
        # One that never ends.
        bending = Bending(rows, 1).field(0, 2, None).field(0, 5, None).moments(0, None)
        self.assertEqual(bending.found(), ("span", 1))

    def test_of_what_is_answered_at_once(self):
        for number, told in enumerate(Bending().record):
            if told[1] != told[2]:
                continue
            first, last, _ = Bending().paper[1][number]
            for worth in (None, (first + 1, last, []), (first, last + 1, []), (first, last, [last])):
                self.assertEqual(Bending().moments(number, worth).found(), ("span", number))

    def test_of_what_was_begun(self):
        for number, told in enumerate(Bending().record):
            if told[1] == told[2] or told[2] is None:
                continue
            first, last, pieces = Bending().paper[1][number]
            for worth in (None, (first + 1, last, pieces), (first, last + 1, pieces), (last + 1, first, pieces)):
                self.assertEqual(Bending().moments(number, worth).found(), ("span", number))
        last = len(Bending().record) - 1
        self.assertEqual(Bending().moments(last, (0, 0, [])).found(), ("span", last))

    def test_at_its_end_alone(self):
        # The going's moments are None: another one that is amiss ahead of its end is told first.
        bending = Bending().moments(1, None).field(2, 5, "untrue")
        self.assertEqual(bending.found(), ("told", 2))
        # One that isn't answered has moments: that is told as it begins.
        rows = [("begin", 1, 0, ("walk", 0)), ("do", 2, 0, ("read", "a"))]
        bending = Bending(rows, 1).moments(0, (0, 0, [])).field(1, 5, "untrue")
        self.assertEqual(bending.found(), ("span", 0))


class TestTold(unittest.TestCase):
    def test_answers(self):
        for number, told in enumerate(Bending().record):
            if told[2] is None:
                continue
            for answer in (None, True, "untrue", 10 ** 9, [told[5]], ("refused", "NoPath", ("a",))):
                if repr(answer) != repr(told[5]):
                    # Refusals of what was begun aren't looked at, but of a going.
                    bending = Bending().field(number, 5, answer)
                    if told[1] != told[2] and isinstance(answer, tuple) and told[4][0] != "going":
                        self.assertEqual(bending.found(), ("told", number) if bending.paper[1][number][2] else None)
                        first, last, _ = bending.paper[1][number]
                        bending.moments(number, (first, last, []))
                        self.assertIsNone(bending.found())
                    else:
                        self.assertEqual(bending.found(), ("told", number), (number, answer))

    def test_true_is_no_one(self):
        rows = [("do", 0, 0, ("make", "a", FILE)), ("do", 0, 0, ("open", "a")), ("do", 0, 0, ("road", "a"))]
        self.assertEqual(Bending(rows, 1).field(0, 5, True).found(), ("told", 0))
        self.assertEqual(Bending(rows, 1).field(1, 5, False).found(), ("told", 1))
        self.assertEqual(Bending(rows, 1).field(2, 5, ([(0, "a", True)], 1)).found(), ("told", 2))
        self.assertEqual(Bending(rows, 1).field(2, 5, ([[0, "a", 1]], 1)).found(), ("told", 2))
        self.assertEqual(Bending(rows, 1).field(2, 5, (((0, "a", 1),), 1)).found(), ("told", 2))
        self.assertIsNone(Bending(rows, 1).field(2, 5, ([(0, "a", 1)], 1)).found())

    def test_dicts_and_lists_that_were_asked_with(self):
        asked = {"a": [1, (2,)], "b": None}
        rows = [("do", 0, 0, ("read", asked))]
        self.assertEqual(Bending(rows, 1).record[0][5], ("refused", "NoPath", (asked,)))
        self.assertIsNone(Bending(rows, 1).found())
        for other in ({"a": [1, (2,)]}, {"a": [True, (2,)], "b": None}, {"a": [1, [2]], "b": None}, {"a": [1, (2,)], "c": None},
                      {"a": [1, (2,)], "b": None, "c": 1}, {}, [], "a", {"a": [1, (2, 3)], "b": None}, {"a": [1], "b": None}):
            bending = Bending(rows, 1).field(0, 5, ("refused", "NoPath", (other,)))
            self.assertEqual(bending.found(), ("told", 0), other)
        same = {"b": None, "a": [1, (2,)]}
        self.assertIsNone(Bending(rows, 1).field(0, 5, ("refused", "NoPath", (same,))).found())

    def test_asks_that_are_none(self):
        for ask in (("read",), ("read", "a", "b"), ("going", "a"), ("walk", 0), ("fall", (0, ())), ("cut back", 0), ("",),
                    ("copy", "/", 1, "/"), ("make", "zz", FILE), ("KEEP",), ("keep", "names")):
            self.assertEqual(Bending().field(2, 4, ask).found(), ("told", 2), ask)
        for ask in (("read", "d/f"), ("mark", "d", 3), ("going",), ("walk", 2), ("walk", True), ("copy", "/", 0, "/"),
                    ("copy", "/", 2, "/"), ("copy", "d/f", 1, "/"), ("whole", "d/f", "x", "f"), ("unpack", "/", ""),
                    ("fall", (0, ()))):
            self.assertEqual(Bending().field(1, 4, ask).found(), ("told", 1), ask)
        # One that begins may never end.
        last = len(Bending().record) - 1
        self.assertEqual(Bending().field(last, 4, ("copy", "/", 1, "/")).found(), ("told", last))
        self.assertIsNone(Bending().field(last, 4, ("copy", "/", 0, "/")).found())

    def test_at_once_what_is_begun_and_the_other_way_about(self):
        rows = [("do", 0, 0, ("listed", "/")), ("begin", 1, 0, ("walk", 5)), ("begin", 1, 0, ("walk", 0)), ("step", 1)]
        self.assertEqual(Bending(rows, 1).record[1][5], ("refused", "NoThing", (5,)))
        self.assertIsNone(Bending(rows, 1).found())
        self.assertEqual(Bending(rows, 1).field(2, 2, 2).found(), ("told", 2))
        self.assertEqual(Bending(rows, 1).field(1, 5, ("refused", "NoThing", (6,))).found(), ("told", 1))
        rows = [("do", 0, 0, ("listed", "/"))]
        self.assertEqual(Bending(rows, 1).field(0, 2, 1).found(), ("told", 0))
        bending = Bending(rows, 1).field(0, 2, None).field(0, 5, None).moments(0, None)
        self.assertEqual(bending.found(), ("told", 0))
        # Refused, but told as gone on with.
        rows = [("begin", 1, 0, ("walk", 5))]
        self.assertEqual(Bending(rows, 1).field(0, 2, 1).found(), ("told", 0))

    def test_disks_locks_watches_and_handles_of_its_own(self):
        rows = [
            ("do", 0, 0, ("make", "a", FILE)), ("do", 0, 0, ("open", "a")), ("do", 0, 0, ("watch", 0, True, 5)),
            ("do", 0, 0, ("write", 0, 0, "x")), ("do", 1, 0, ("lock", 1, 0, None, False)), ("do", 2, 0, ("lock", 1, 0, 5, True)),
            ("do", 1, 0, ("drop",)), ("do", 3, 0, ("look", 0)), ("do", 3, 0, ("keep", 0)), ("do", 3, 0, ("text", 0)),
        ]
        for number, answer in ((1, 1), (2, 1), (5, ("got", [])), (6, []), (7, []), (8, 3), (9, "")):
            self.assertIsNone(Bending(rows, 1).found())
            self.assertEqual(Bending(rows, 1).field(number, 5, answer).found(), ("told", number))


class TestClaim(unittest.TestCase):
    def test_of_what_is_answered_at_once(self):
        rows = [("do", 0, 0, ("make", "a", FILE)), ("do", 0, 1, ("make", "b", FILE)), ("do", 0, 0, ("read", "b"))]
        make = ("make", 0, "a", 1, FILE)
        self.assertEqual(Bending(rows).entries(0, []).found(), ("claim", 0))
        self.assertEqual(Bending(rows).entries(0, [(0, ("make", 0, "c", 1, FILE))]).found(), ("claim", 0))
        self.assertEqual(Bending(rows).entries(0, [(0, make), (0, ("mark", 0, 1))]).found(), ("claim", 0))
        self.assertEqual(Bending(rows).entries(0, [(1, make)]).found(), ("claim", 0))
        # Another house has some: its own first.
        self.assertEqual(Bending(rows).entries(1, [(0, ("mark", 0, 1))]).found(), ("claim", 1))
        self.assertEqual(Bending(rows).entries(1, [(0, ("mark", 0, 1))]).entries(0, []).found(), ("claim", 0))
        self.assertEqual(Bending(rows).entries(0, [(0, make), (1, ("mark", 0, 1))]).found(), ("claim", 0))
        # An answer that is untrue goes ahead, moments behind.
        self.assertEqual(Bending(rows).entries(0, []).field(0, 5, 2).found(), ("told", 0))
        self.assertEqual(Bending(rows).entries(0, []).moments(0, None).found(), ("claim", 0))
        # What only looks writes nothing.
        self.assertEqual(Bending(rows).entries(0, [(0, make), (2, ("mark", 0, 1))]).found(), ("claim", 0))

    def test_of_what_is_begun_and_at_beats_of_nobody(self):
        rows = [("begin", 1, 0, ("walk", 0)), ("do", 0, 0, ("listed", "/"))]
        self.assertEqual(Bending(rows).entries(0, [(0, ("mark", 0, 1))]).found(), ("claim", 0))
        self.assertEqual(Bending(rows).entries(1, [(0, ("mark", 0, 1))]).found(), ("claim", 1))
        for house in (0, 1):
            self.assertEqual(Bending(rows).entries(house, [(7, ("mark", 0, 1))]).found(), ("claim", house))
        both = Bending(rows).entries(0, [(7, ("mark", 0, 1))]).entries(1, [(7, ("mark", 0, 1))])
        self.assertEqual(both.found(), ("claim", 0))

    def test_of_what_is_under_way(self):
        mark, more, back = ("mark", 0, 1), ("mark", 0, 2), ("cut back", 0)
        writers = (("whole", "f", "x", "g"), 0), (("unpack", "/", TEXT), 0), (("copy", "/", 1, "/"), 1)
        for ask, house in writers:
            rows = [("begin", 1, 0, ask)]
            for entries in ([mark], [mark, more]):
                self.assertIsNone(Bending(rows).entries(house, [(5, entry) for entry in entries]).found())
            for entries in ([mark, more, mark], [back], [mark, back]):
                self.assertEqual(Bending(rows).entries(house, [(5, entry) for entry in entries]).found(), ("claim", house))
            other = 1 - house
            self.assertEqual(Bending(rows).entries(other, [(5, mark)]).found(), ("claim", other))
            both = Bending(rows).entries(house, [(5, mark)]).entries(other, [(5, mark)])
            self.assertEqual(both.found(), ("claim", 0))
        for ask in (("going", "a"), ("walk", 0)):
            self.assertEqual(Bending([("begin", 1, 0, ask)]).entries(0, [(5, mark)]).found(), ("claim", 0))
        # Two under way, of two houses: at one beat at one of them alone.
        rows = [("begin", 1, 0, ("unpack", "/", TEXT)), ("begin", 2, 1, ("unpack", "/", TEXT))]
        self.assertIsNone(Bending(rows).entries(0, [(5, mark)]).entries(1, [(6, mark)]).found())
        self.assertEqual(Bending(rows).entries(0, [(5, mark)]).entries(1, [(5, mark)]).found(), ("claim", 0))
        # Behind its end it writes nothing more, at its end it does.
        text = archive("folder 5 .")
        rows = [("begin", 1, 0, ("unpack", "/", text)), ("step", 1)]
        self.assertIsNone(Bending(rows).found())
        bending = Bending(rows)
        self.assertEqual(bending.entries(0, bending.paper[0][0] + [(2, mark)]).found(), ("claim", 0))
        self.assertEqual(Bending(rows).entries(0, [(1, mark), (1, more), (1, mark)]).found(), ("claim", 0))


class Written:
    """A record and paper written by hand: one house, or two, an asking that is begun at beat 10, ends at beat 20."""

    def __init__(self, ask, answer, span, ahead, within, houses=1):
        rows = [[], []][:houses]
        record = []
        moments = []
        for beat, entry in enumerate(ahead):
            record.append((1, beat, beat, 0, ("all", (entry,)), beat + 1))
            rows[0].append((beat, ("all", (entry,))))
            moments.append((beat + 1, beat + 1, []))
        record.append((0, 10, 20, 0, ask, answer))
        moments.append(span)
        for beat, entry in enumerate(within, start=11):
            if entry is None:
                continue
            record.append((1, beat, beat, 0, ("all", (entry,)), len(rows[0]) + 1))
            rows[0].append((beat, ("all", (entry,))))
            moments.append((len(rows[0]), len(rows[0]), []))
        self.number = len(ahead)
        self.record, self.paper = record, (rows, moments)

    def found(self):
        told = amiss(self.record, self.paper)
        return told if told != ("told", self.number) else "untrue"


DIR, NOTE, SUB = ("make", 0, "d", 1, FOLDER), ("make", 1, "f", 2, FILE), ("make", 1, "e", 3, FOLDER)


class TestByHand(unittest.TestCase):
    def judged(self, due, *parts, **more):
        self.assertEqual(Written(*parts, **more).found(), due)

    def test_a_going(self):
        road = ([(0, "d", 1), (1, "f", 2)], 2)
        ahead = [DIR, NOTE]
        ask = ("going", "d/f")
        within = [("mark", 1, 2)]
        self.judged(None, ask, road, (2, 3, [3]), ahead, within)
        for pieces in ([], [2], [3, 3]):
            self.judged("untrue", ask, road, (2, 3, pieces), ahead, within)
        self.judged("untrue", ask, ([(0, "d", 1)], 1), (2, 3, [3]), ahead, within)
        # Its road as it was isn't that of its end.
        self.judged("untrue", ask, road, (2, 3, [3]), ahead, [("move", 1, "f", 0, "f")])
        fault = ("refused", "Fault", ("absent", "d/f", ((0, "d", 1),)))
        self.judged(None, ask, fault, (2, 3, []), ahead, [("move", 1, "f", 0, "f")])
        self.judged("untrue", ask, fault, (2, 3, []), ahead, within)
        self.judged("untrue", ask, fault, (2, 3, [3]), ahead, [("move", 1, "f", 0, "f")])
        for other in (("refused", "NoPath", ("d/f",)), ("refused", "Fault", ("kind", "d/f", ((0, "d", 1),))),
                      ("refused", "Fallen", (3,)), ("refused", "Fault", ("absent", "d/f", ()))):
            self.judged("untrue", ask, other, (2, 3, []), ahead, [("move", 1, "f", 0, "f")])

    def test_a_walk(self):
        ahead, within, ask = [DIR, NOTE], [("mark", 1, 2), SUB, None], ("walk", 0)
        root = ((), 0, 2, (("d", 1, "folder"),))

        def of_d(moment, *names):
            return (("d",), 1, moment, names)

        f, e = ("f", 2, "file"), ("e", 3, "folder")
        empty = (("d", "e"), 3, 4, ())
        self.judged(None, ask, [root, of_d(3, f)], (2, 4, [2, 3]), ahead, within)
        self.judged(None, ask, [root, of_d(4, e, f), empty], (2, 4, [2, 4, 4]), ahead, within)
        self.judged("untrue", ask, [root, of_d(4, f)], (2, 4, [2, 4]), ahead, within)
        self.judged("untrue", ask, [root, of_d(4, e, f)], (2, 4, [2, 4]), ahead, within)
        self.judged("untrue", ask, [root, of_d(3, f)], (2, 4, [2, 2]), ahead, within)
        self.judged("untrue", ask, [root, of_d(3, f)], (2, 4, []), ahead, within)
        self.judged("untrue", ask, [], (2, 4, []), ahead, within)
        # True of the row, but ahead of its asking.
        early = ((), 0, 1, (("d", 1, "folder"),))
        self.judged("untrue", ask, [early, of_d(3, f)], (2, 4, [1, 3]), ahead, within)
        self.judged("untrue", ask, ("refused", "Fallen", (4,)), (2, 4, []), ahead, within)
        self.judged(None, ask, ("refused", "NoThing", (0,)), (2, 4, []), ahead, within)
        self.judged("untrue", ask, ("refused", "NoThing", (0,)), (2, 4, [2]), ahead, within)

    def whole(self, within, due, answer="done", pieces=(), text="x"):
        # Each step's entries come of the whole itself, at beats at which nobody else begins.
        ask = ("whole", "d/f", text, "g")
        written = Written(ask, answer, None, [DIR, NOTE], [])
        rows, moments = written.paper
        for beat, entry in enumerate(within, start=11):
            rows[0].append((beat, entry))
        moments[2] = (2, len(rows[0]), list(pieces))
        self.assertEqual(written.found(), due, within)

    def test_a_whole(self):
        make, write, move = ("make", 1, "g", 3, FILE), ("write", 3, 0, "x"), ("move", 1, "g", 1, "f")
        self.whole([make, write, move], None)
        self.whole([make, ("mark", 3, 1), write, ("cut", 3, 0), move], None)
        self.whole([make, write, ("mark", 1, 1), move, ("strike", 1, "f")], None)
        for within in (
            [], [make, write], [make, move], [make, move, ("write", 3, 0, "x")],
            [make, ("write", 3, 0, "y"), move], [make, ("write", 3, 0, "xx"), move], [make, ("write", 2, 0, "x"), move],
            [make, write, ("move", 1, "g", 0, "f")], [make, write, ("move", 1, "g", 1, "k")],
            [("make", 0, "g", 3, FILE), write, ("move", 0, "g", 1, "f")],
            [("make", 1, "h", 3, FILE), write, ("move", 1, "h", 1, "f")],
            [("all", (make, write)), move], [make, write, ("all", (move,))],
        ):
            self.whole(within, "untrue")
        self.whole([make, write, move], "untrue", answer="DONE")
        self.whole([make, write, move], "untrue", answer=None)
        self.whole([make, write, move], "untrue", pieces=[2])
        self.whole([make, ("write", 3, 0, ""), move], None, text="")
        # Two made one behind the other: each triple by itself, none mixed of both.
        again, other = ("make", 1, "g", 4, FILE), ("write", 4, 0, "x")
        self.whole([make, ("strike", 1, "g"), again, other, move], None)
        self.whole([make, ("strike", 1, "g"), again, write, move], None)
        # The folder as at from.
        self.whole([("move", 0, "d", 0, "e"), make, write, move], None)
        # Refusals aren't looked at, but Fallen.
        self.whole([make], None, answer=("refused", "NoChange", ("absent",)))
        self.whole([make], "untrue", answer=("refused", "NoChange", ("absent",)), pieces=[2])
        self.whole([make], "untrue", answer=("refused", "Fallen", (3,)))
        self.whole([make], "untrue", answer=("refused", "NoChange"))

    def test_an_unpack(self):
        text = archive("folder 0 .", "folder 0 q")
        ask, ahead, within = ("unpack", "d", text), [DIR], [("mark", 1, 0), ("make", 1, "q", 2, FOLDER), ("mark", 0, 2)]
        for moments, due in (
            ([2, 3], None), ([2, 2], None), ([4, 4], None), ([3, 2], "untrue"), ([1, 3], "untrue"), ([2, 5], "untrue"), ([2], "untrue"),
            ([2, 3, 3], "untrue"), ([], "untrue"),
        ):
            self.judged(due, ask, moments, (1, 4, moments), ahead, within)
        self.judged("untrue", ask, [2, 3], (1, 4, [2, 4]), ahead, within)
        self.judged("untrue", ask, (2, 3), (1, 4, [2, 3]), ahead, within)
        self.judged(None, ask, ("refused", "There", (2,)), (1, 4, []), ahead, within)
        for none in (("REFUSED", "There", (2,)), ("refused", None, (2,)), ("refused", "There", [2]), ("refused", "There"),
                     ["refused", "There", (2,)], ("refused", "There", (2,), 0), (None, "There", (2,))):
            self.judged("untrue", ask, none, (1, 4, []), ahead, within)
        self.judged("untrue", ask, ("refused", "Fallen", (4,)), (1, 4, []), ahead, within)

    def test_a_copy(self):
        ask, ahead = ("copy", "/", 1, "/"), [DIR, NOTE]
        within = [("mark", 1, 2), ("mark", 1, 0), ("write", 2, 0, "x"), ("name", 0, "g", 2)]
        words = [("names", 0), ("thing", 1), ("names", 1), ("thing", 2)]

        def copied(moments, as_at, left=(), words=words):
            return [(*word, moment) for word, moment in zip(words, moments)], list(left), as_at

        def judged(due, moments, as_at, pieces=None, **more):
            span = (2, 6, moments if pieces is None else pieces)
            self.judged(due, ask, copied(moments, as_at, **more), span, ahead, within, houses=2)

        judged(None, [2, 2, 2, 2], 2)
        judged(None, [2, 2, 4, 4], 4)
        judged(None, [2, 2, 2, 5], 5)
        # The mark of 1 was another one then.
        judged(None, [2, 3, 3, 4], None)
        judged("untrue", [2, 3, 3, 4], 4)
        judged("untrue", [2, 2, 4, 4], None)
        judged("untrue", [2, 2, 4, 4], 2)
        judged(None, [2, 2, 3, 5], 5)
        # The names of the root are others at 6; a second name of 2 is as little a place as before.
        judged(None, [2, 2, 2, 6], None)
        judged(None, [6, 6, 6, 6], 6)
        judged("untrue", [2, 2, 2, 6], 6)
        judged(None, [2, 2, 2, 5], 5, left=[2])
        for left in (["d"], [None], [True], [-1]):
            judged("untrue", [2, 2, 2, 5], 5, left=left)
        for piece in (["names", 0, 2], ("names", 0), ("names", 0, 2, 2), (0, 0, 2), (None, 0, 2), ("names", False, 2), ("names", 0, "2")):
            answer = [piece], [], 2
            self.judged("untrue", ask, answer, (2, 6, [2]), ahead, within, houses=2)
        for moments in ([1, 2, 2, 2], [2, 3, 2, 3], [2, 2, 2, 7]):
            judged("untrue", moments, moments[-1])
        judged("untrue", [2, 2, 2, 2], 2, pieces=[2, 2, 2, 3])
        judged("untrue", [2, 2, 2, 2], 2, pieces=[])
        judged("untrue", [2, 2, 2, 2], True)
        for bad in ([("names", 9)] * 4, [("names", 2)] * 4, [("NAMES", 0)] * 4, [("thing", 9)] * 4, [("thing", "d")] * 4):
            judged("untrue", [2, 2, 2, 2], 2, words=bad)
        for answer in ("done", [], ([], []), ([], [], None, None), (((("names", 0, 2),),), [], 2), ([("names", 0, 2)], None, 2)):
            self.judged("untrue", ask, answer, (2, 6, [2]), ahead, within, houses=2)
        self.judged("untrue", ask, ("refused", "Fallen", (6,)), (2, 6, []), ahead, within, houses=2)
        self.judged(None, ask, ("refused", "NoChange", ("full",)), (2, 6, []), ahead, within, houses=2)

    def test_as_little_a_place(self):
        ask, ahead = ("copy", "d", 1, "/"), [DIR, NOTE]
        pieces = [("names", 1), ("thing", 2)]
        for moments, as_at in (([2, 3], None), ([2, 2], 2), ([2, 4], 4)):
            answer = [(*word, moment) for word, moment in zip(pieces, moments)], [], as_at
            self.judged(None, ask, answer, (2, 4, moments), ahead, [("strike", 1, "f"), ("name", 1, "f", 2)], houses=2)
        # The thing read while it was loose, in the middle of others.
        answer = [("names", 1, 2), ("thing", 2, 3), ("names", 1, 4)], [2], None
        self.judged(None, ask, answer, (2, 4, [2, 3, 4]), ahead, [("strike", 1, "f"), ("name", 1, "f", 2)], houses=2)
        answer = [("names", 1, 2), ("thing", 2, 3), ("names", 1, 4)], [2], 4
        self.judged("untrue", ask, answer, (2, 4, [2, 3, 4]), ahead, [("strike", 1, "f"), ("name", 1, "f", 2)], houses=2)


class TestFallen(unittest.TestCase):
    def rows(self, ask, falls, many=2):
        start = ("do", 3, 0, ("all", (DIR, NOTE)))
        rows = [start, ("begin", 1, 0, ask), ("do", 0, 0, ("mark", "d", 1))]
        rows += [("do", 0, 1, ("mark", "/", 1))] if many > 1 else []
        rows += [("fall", house, 0) for house in falls]
        rows += [("do", 2, 0, ("make", "n", FILE)), ("step", 1)]
        return rows

    def test_each_long_asking(self):
        asks = [("going", "d/f"), ("walk", 0), ("whole", "d/f", "x", "g"), ("unpack", "d", TEXT), ("copy", "/", 1, "/")]
        for ask in asks:
            for falls in ((0,), (1,), (0, 1), (1, 0)):
                if falls == (1,) and ask[0] != "copy":
                    continue
                bending = Bending(self.rows(ask, falls))
                self.assertIsNone(bending.found())
                answer = bending.record[1][5]
                self.assertEqual(answer[:2], ("refused", "Fallen"))
                since = answer[2][0]
                for other in (("refused", "Fallen", (since - 1,)), ("refused", "Fallen", (since, since)),
                              ("refused", "Fallen", (True,)), ("refused", "Fault", ("absent", "d/f", ())), None, "done", []):
                    self.assertEqual(Bending(self.rows(ask, falls)).field(1, 5, other).found(), ("told", 1))
                first, last, _ = bending.paper[1][1]
                self.assertEqual(bending.moments(1, (first, last, [last])).found(), ("told", 1))

    def test_a_fall_ahead_of_its_begin_is_none_of_it(self):
        rows = [("do", 3, 0, ("all", (DIR, NOTE))), ("fall", 0, 1), ("begin", 1, 0, ("walk", 0)), ("step", 1), ("step", 1)]
        bending = Bending(rows, 1)
        self.assertIsNone(bending.found())
        self.assertEqual(bending.record[-1][5][0][:3], ((), 0, 2))


class TestByChance(unittest.TestCase):
    def test_another_answer_is_told(self):
        for seed in range(150):
            chance = random.Random(seed)
            world, _ = drawn_world(chance, 40)
            record, paper = world.record(), world.paper()
            done = [number for number, told in enumerate(record) if told[1] == told[2]]
            number = chance.choice(done)
            row = list(record[number])
            row[5] = chance.choice(([], 0, None, "x", 77, ("refused", "NoThing", (3,)), [1]))
            if repr(row[5]) != repr(record[number][5]):
                record[number] = tuple(row)
                self.assertEqual(amiss(record, paper), ("told", number))

    def test_an_entry_more_or_less_is_amiss(self):
        for seed in range(150):
            chance = random.Random(seed)
            world, _ = drawn_world(chance, 40)
            record, (rows, moments) = world.record(), world.paper()
            house = chance.randrange(len(rows))
            # At steps some more may come of what is under way.
            begins = [told[1] for told in record]
            places = [place for place, (beat, _) in enumerate(rows[house]) if beat in begins]
            if not places:
                continue
            place = chance.choice(places)
            if chance.random() < 0.5:
                del rows[house][place]
            else:
                rows[house].insert(place, (rows[house][place][0], ("mark", 0, 998)))
            self.assertIsNotNone(amiss(record, (rows, moments)))

    def test_some_other_moments_are_amiss(self):
        for seed in range(150):
            chance = random.Random(seed)
            world, _ = drawn_world(chance, 40)
            record, (rows, moments) = world.record(), world.paper()
            number = chance.randrange(len(record))
            first, last, pieces = moments[number] or (0, 0, [])
            moments[number] = chance.choice(((first + 1, last, pieces), (first, last + 1, pieces), (first, last, pieces + [last])))
            found = amiss(record, (rows, moments))
            self.assertIsNotNone(found)
            self.assertIn(found, (("span", number), ("told", number)))


if __name__ == "__main__":
    unittest.main()
