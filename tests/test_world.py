"""Points 36 and 37: worlds, their rows, records and papers."""

import copy
import random
import unittest

from onehistory.archives import packed
from onehistory.errors import NoMoment, NoWeaving
from onehistory.house import House
from onehistory.judge import amiss
from onehistory.owned import just_the_same, own
from onehistory.rows import tree_at
from onehistory.world import World
from tests.test_archives import archive
from tests.test_tree import FILE, FOLDER
from tests.things import KNOTTED, NO_NUMBERS, ODD
from tests.weavings import drawn_world

# A folder d with a file f, with the text "hello", and a link l to d.
START = (
    "do", 3, 0, ("all", (("make", 0, "d", 1, FOLDER), ("make", 1, "f", 2, FILE), ("write", 2, 0, "hello"),
                         ("make", 0, "l", 3, ("link", "d")))),
)


def begun(*rows, many=1):
    """A world that did START and these rows."""
    world = World(many)
    world.play([START, *rows])
    return world


def asked(world, *ask, asker=0, house=0):
    return world.play([("do", asker, house, ask)])[0]


def refused(word, *fields):
    return ("refused", word, fields)


class TestAtOnce(unittest.TestCase):
    def test_each_word_done(self):
        world = begun()
        cases = [
            (("make", "d/g", FILE), 4), (("strike", "d/g"), None), (("make", "k", FOLDER), 5), (("make", "m", FILE), 6),
            (("move", "m", "k/m"), None), (("exchange", "k/m", "l"), None), (("exchange", "k/m", "l"), None),
            (("name", "l/f", "n"), None), (("mark", "n", 7), None), (("read", "n"), "hello"), (("listed", "d"), ["f"]),
            (("listed", "/"), ["d", "k", "l", "n"]), (("open", "n"), 0), (("open", "k/m"), 1), (("text", 0), "hello"),
            (("write", 0, 5, "!"), None), (("cut", 0, 2), None), (("text", 0), "he"), (("close", 1), None),
            (("all", (("mark", 1, 3), ("mark", 2, 4))), 13), (("all", [("mark", 1, 0)]), 14), (("keep", 0), 14),
            (("keep names",), 14), (("road", "l/f"), ([(0, "l", 3), (0, "d", 1), (1, "f", 2)], 2)), (("road", "."), ([], 0)),
            (("globbed", "**/?"), ["d", "d/f", "k", "k/m", "l", "n"]), (("lock", 2, 0, 5, False), ("got", [])),
            (("lock", 2, 5, None, True), ("got", [])), (("free", 2, 0, 3), []), (("drop",), []),
            (("watch", 1, True, 20), 0), (("watch", 0, False, 1), 1), (("mark", "d", 9), None),
            (("taken", 0), [(15, ("turned", (), (1, "folder", None, 9, 1)))]), (("look", 0), []),
            (("look", 1), [(15, ("turned", ("d",), (1, "folder", None, 9, 1)))]),
            (("packed", "k"), "archive 2\nfolder 0 .\nfile 0 0 m\n\n"),
            (("unpacked", "k", "archive 2\nfolder 1 .\nfolder 2 q\n"), 16), (("listed", "k"), ["m", "q"]),
        ]
        for number, (ask, answer) in enumerate(cases, start=1):
            told = asked(world, *ask, asker=number % 4 if ask[0] not in ("lock", "free", "drop") else 0)
            self.assertEqual((told, type(told)), (answer, type(answer)), ask)
            self.assertEqual((world.beats(), len(world), world.busy()), (number + 1, number + 1, []))
            self.assertEqual(world.record()[-1], (number % 4 if ask[0] not in ("lock", "free", "drop") else 0,
                                                  number, number, 0, ask, answer))
            moment = world.house(0).moment()
            self.assertEqual(world.paper()[1][-1], (moment, moment, []))

    def test_each_word_refused(self):
        gone = ()
        cases = [
            (("make", "A", FILE), refused("NoPath", "A")), (("make", "d", FILE), refused("NoChange", "there")),
            (("make", "x", "file"), refused("NoChange", "form")), (("make", "q/x", FILE), refused("Fault", "absent", "q/x", gone)),
            (("strike", "d"), refused("NoChange", "full")), (("strike", "/"), refused("Fault", "form", "/", gone)),
            (("move", "d", "d/x"), refused("NoChange", "within")), (("move", "A", "B"), refused("NoPath", "A")),
            (("exchange", "d", "d"), refused("NoChange", "same")), (("exchange", "d", None), refused("NoPath", None)),
            (("name", "d", "x"), refused("Fault", "kind", "d", ((0, "d", 1),))), (("mark", "d", 1000), refused("NoChange", "form")),
            (("read", "d"), refused("Fault", "kind", "d", ((0, "d", 1),))), (("listed", 5), refused("NoPath", 5)),
            (("open", "d"), refused("Fault", "kind", "d", ((0, "d", 1),))), (("text", 0), refused("NoHandle", 0)),
            (("write", None, 0, ""), refused("NoHandle", None)), (("cut", True, 0), refused("NoHandle", True)),
            (("close", "a"), refused("NoHandle", "a")), (("all", ()), refused("NoChange", "form")),
            (("all", None), refused("NoChange", "form")), (("keep", [0]), refused("NoHandle", [0])),
            (("road", "d/q"), refused("Fault", "absent", "d/q", ((0, "d", 1),))),
            (("globbed", "***"), refused("NoPattern", "***")), (("lock", 1, 3, 3, False), refused("NoStretch", (1, 3, 3))),
            (("free", -1, 0, None), refused("NoStretch", (-1, 0, None))), (("leave",), refused("Waiting", ("owner", 1))),
            (("watch", 9, True, 20), refused("NoThing", 9)), (("watch", 0, True, 0), refused("NoRoom", 0)),
            (("taken", 0), refused("NoHandle", 0)), (("look", -1), refused("NoHandle", -1)),
            (("look", False), refused("NoHandle", False)), (("packed", "d/f"), refused("Fault", "kind", "d/f", ((0, "d", 1), (1, "f", 2)))),
            (("unpacked", "d", ""), refused("NoArchive", 0)), (("unpacked", "d", None), refused("NoArchive", None)),
            (("unpacked", "/", archive("folder 0 .", "file 0 0 d\n")), refused("There", 2)),
            (("unpacked", "/", archive("folder 0 .", "folder 0 q/d")), refused("Outside", 2)),
        ]
        world = begun()
        for ask, answer in cases:
            self.assertEqual(asked(world, *ask, asker=1), answer, ask)
        self.assertEqual(len(world.house(0)), 1)
        self.assertEqual([told[5] for told in world.record()[1:]], [answer for _, answer in cases])
        self.assertEqual(world.paper()[1], [(1, 1, [])] * (len(cases) + 1))

    def test_things_of_any_kind(self):
        world = begun()
        for number, thing in enumerate(ODD):
            told = asked(world, "read", thing)
            self.assertEqual(told[:2], ("refused", "NoPath"))
            for ask in (("make", "x", thing), ("mark", "d", thing), ("write", thing, thing, thing), ("all", thing),
                        ("lock", thing, thing, thing, False), ("watch", thing, True, thing), ("taken", thing),
                        ("unpacked", "d", thing), ("globbed", thing), ("keep", thing), ("free", 0, 0, thing)):
                told = asked(world, *ask)
                if ask[0] not in ("mark", "free", "lock"):
                    self.assertEqual(told[0], "refused", ask)
            for word in ("going", "walk", "unpack", "whole"):
                ask = {"going": (thing,), "walk": (thing,), "unpack": ("/", thing), "whole": ("x", "", thing)}[word]
                self.assertEqual(world.play([("begin", 1, 0, (word, *ask))])[0][0], "refused")

    def test_things_that_hold_themselves(self):
        for thing in KNOTTED:
            world = begun()
            told = asked(world, "read", thing)
            self.assertTrue(just_the_same(told, ("refused", "NoPath", (thing,))))
            asked(world, "mark", "d", thing)
            self.assertEqual(world.play([("begin", 1, 0, ("walk", thing))])[0][:2], ("refused", "NoThing"))
            with self.assertRaises(NoWeaving) as caught:
                world.play([("step", 0), thing])
            self.assertEqual(caught.exception.number, 0)
            with self.assertRaises(NoWeaving) as caught:
                world.play([("do", 0, 0, ("leave",)), thing])
            self.assertEqual(caught.exception.number, 1)
            for one in (world, world.twin()):
                self.assertEqual((one.beats(), len(one)), (4, 4))
                self.assertIsNone(amiss(one.record(), one.paper()))
            self.assertIsNotNone(amiss([*world.record()[:3], thing], world.paper()))
            self.assertEqual(amiss(thing, thing), ("form", None))

    def test_handles_are_numbered_for_each_house(self):
        world = World(2)
        for house in (0, 1):
            asked(world, "make", "f", FILE, house=house)
            self.assertEqual([asked(world, "open", "f", house=house) for _ in range(2)], [0, 1])
        # A whole opens one, too, of which none is told.
        world.play([("begin", 1, 0, ("whole", "f", "x", "g")), ("step", 1)])
        self.assertEqual(asked(world, "text", 2), refused("NoHandle", 2))
        self.assertEqual(asked(world, "open", "f"), 2)
        self.assertEqual(asked(world, "write", 2, 0, "elder"), None)
        world.play([("step", 1)] * 4)
        self.assertEqual((asked(world, "text", 2), asked(world, "read", "f")), ("elder", "x"))
        self.assertEqual(asked(world, "close", 2), None)
        self.assertEqual(asked(world, "close", 2), refused("NoHandle", 2))
        world.play([("fall", 0, 0)])
        self.assertEqual([asked(world, "text", handle) for handle in (0, 3)], [refused("NoHandle", 0), refused("NoHandle", 3)])

    def test_locks_by_the_owner_of_the_askers_number(self):
        world = begun()
        self.assertEqual(asked(world, "lock", 2, 0, 5, False, asker=1), ("got", []))
        self.assertEqual(asked(world, "lock", 2, 4, None, False, asker=2), ("waits", []))
        self.assertEqual(asked(world, "lock", 2, 4, 9, True, asker=3), ("waits", []))
        self.assertEqual(asked(world, "lock", 2, 9, 10, True, asker=3), refused("Waiting", ("owner", 3)))
        self.assertEqual(asked(world, "leave", asker=2), [])
        self.assertEqual(asked(world, "free", 2, 4, 5, asker=1), [("owner", 3)])
        self.assertEqual(asked(world, "lock", 2, 5, 6, False, asker=0), ("waits", []))
        self.assertEqual(asked(world, "drop", asker=3), [("owner", 0)])
        world.play([("fall", 0, 0)])
        self.assertEqual(asked(world, "lock", 2, 0, 9, False, asker=2), ("got", []))


class TestRows(unittest.TestCase):
    def test_what_is_no_row(self):
        world = begun(("begin", 1, 0, ("going", "d/f")), many=2)
        good = ("do", 0, 0, ("read", "d/f"))
        cases = list(ODD) + [
            list(good), ("do", 0, 0), (*good, 1), ("DO", 0, 0, ("read", "d")), ("do", 0, 2, ("read", "d")),
            ("do", 4, 0, ("read", "d")), ("do", -1, 0, ("read", "d")), ("do", True, 0, ("read", "d")),
            ("do", 0, False, ("read", "d")), ("do", 0, None, ("read", "d")), ("do", 1, 0, ("read", "d")),
            ("do", 0, 0, ["read", "d"]), ("do", 0, 0, ("read",)), ("do", 0, 0, ("read", "d", "e")), ("do", 0, 0, ()),
            ("do", 0, 0, "read"), ("do", 0, 0, (None, "d")), ("do", 0, 0, ("going", "d")), ("do", 0, 0, ("begin", "d")),
            ("do", 0, 0, ("keep", "names", 1)), ("do", 0, 0, ("keep names", 1)), ("do", 0, 0, ("cut back", 0)),
            ("begin", 0, 0, ("read", "d")), ("begin", 0, 0, ("going",)), ("begin", 0, 0, ("walk", 0, 0)),
            ("begin", 1, 0, ("walk", 0)), ("begin", 0, 0, ("copy", "/", 0, "/")), ("begin", 0, 1, ("copy", "/", 1, "/")),
            ("begin", 0, 0, ("copy", "/", 2, "/")), ("begin", 0, 0, ("copy", "/", True, "/")),
            ("begin", 0, 0, ("copy", "/", None, "/")), ("begin", 0, 0, ("copy", "/", -1, "/")),
            ("begin", 0, 0, ("copy", "/", [1], "/")), ("step", 0), ("step", 4), ("step", None), ("step", True),
            ("step",), ("step", 1, 0), ("fall", 2, 0), ("fall", 0, -1), ("fall", 0, True), ("fall", 0, None), ("fall", 0),
            ("fall", True, 0), ("fall", 0, 0, 0),
        ]
        record, paper, beats = world.record(), world.paper(), world.beats()
        for row in cases:
            for ahead in range(3):
                with self.assertRaises(NoWeaving) as caught:
                    world.play([good] * ahead + [row, good])
                self.assertEqual(caught.exception.number, ahead, row)
                self.assertEqual((world.record(), world.paper(), world.beats(), world.busy()), (record, paper, beats, [1]))
        for thing in (*ODD, (), (good,), "do", good):
            if not isinstance(thing, list):
                with self.assertRaises(NoWeaving) as caught:
                    world.play(thing)
                self.assertIsNone(caught.exception.number)

    def test_all_or_none_as_the_world_is_then(self):
        world = begun()
        rows = [("begin", 1, 0, ("going", "d/f")), ("step", 1), ("step", 1), ("step", 1), ("step", 1)]
        with self.assertRaises(NoWeaving) as caught:
            world.play(rows)
        self.assertEqual((caught.exception.number, world.beats(), world.busy()), (4, 1, []))
        self.assertEqual(world.play(rows[:4]), [None, None, None, ([(0, "d", 1), (1, "f", 2)], 2)])
        self.assertEqual(world.play(rows[:1]), [None])
        with self.assertRaises(NoWeaving) as caught:
            world.play([("step", 1), ("do", 0, 0, ("make", "x", FILE)), ("begin", 1, 0, ("walk", 0))])
        self.assertEqual((caught.exception.number, world.busy(), world.house(0).moment()), (2, [1], 1))
        # It goes on from where it was, what is under way, too.
        self.assertEqual(world.play([("step", 1), ("step", 1), ("step", 1)])[-1], ([(0, "d", 1), (1, "f", 2)], 2))

    def test_how_many_houses(self):
        for many in (1, 2, 3):
            world = World(many=many)
            self.assertEqual((len(world), world.record(), world.paper(), world.beats(), world.busy()),
                             (0, [], ([[] for _ in range(many)], []), 0, []))
            for number in range(many):
                self.assertEqual(len(world.house(number)), 0)
            for thing in (*NO_NUMBERS, many, 3, 10 ** 29):
                with self.assertRaises(NoMoment) as caught:
                    world.house(thing)
                self.assertIs(caught.exception.thing, thing)
        self.assertEqual(len(World().paper()[0]), 1)
        for thing in (*NO_NUMBERS, 0, 4):
            with self.assertRaises(NoMoment) as caught:
                World(thing)
            self.assertIs(caught.exception.thing, thing)

    def test_nothing_played(self):
        world = World()
        self.assertEqual((world.play([]), world.beats(), len(world)), ([], 0, 0))


class TestBegun(unittest.TestCase):
    def through(self, world, ask, asker=1, house=0, between=()):
        """All answers of an asking that is begun, its row of the record, and its moments."""
        told = world.play([("begin", asker, house, ask)])
        number = len(world) - 1
        for row in between:
            told.append("between")
            world.play([row])
        while asker in world.busy():
            self.assertEqual((world.record()[number][2], world.record()[number][5], world.paper()[1][number]), (None,) * 3)
            told += world.play([("step", asker)])
        return told, world.record()[number], world.paper()[1][number]

    def test_a_going(self):
        world = begun()
        told, row, moments = self.through(world, ("going", "l/f"), between=[("do", 0, 0, ("mark", "d", 1))])
        answer = ([(0, "l", 3), (0, "d", 1), (1, "f", 2)], 2)
        self.assertEqual(told, [None, "between", None, None, None, answer])
        self.assertEqual((row, moments), ((1, 1, 6, 0, ("going", "l/f"), answer), (1, 2, [2])))
        # It begins anew.
        told, row, moments = self.through(world, ("going", "d/f"), between=[("step", 1), ("do", 0, 0, ("move", "d", "e"))])
        self.assertEqual((row[5], moments), (refused("Fault", "absent", "d/f", ()), (2, 3, [])))
        for path, fault in (("A", refused("NoPath", "A")), (None, refused("NoPath", None))):
            told, row, moments = self.through(world, ("going", path))
            self.assertEqual((told, row[2] - row[1], row[5], moments), ([fault], 0, fault, (3, 3, [])))

    def test_a_walk(self):
        world = begun()
        told, row, moments = self.through(world, ("walk", 0), between=[("step", 1), ("do", 0, 0, ("strike", "d/f"))])
        answer = [((), 0, 1, (("d", 1, "folder"), ("l", 3, "link"))), (("d",), 1, 2, ())]
        self.assertEqual((told, row[5], moments), ([None, "between", "between", answer], answer, (1, 2, [1, 2])))
        for folder in (2, 3, 9, -1, True, None, "0"):
            told, row, moments = self.through(world, ("walk", folder))
            self.assertEqual((told, moments), ([refused("NoThing", folder)], (2, 2, [])))

    def test_a_whole(self):
        world = begun()
        told, row, moments = self.through(world, ("whole", "d/f", "newer", "g"))
        self.assertEqual((told, moments), ([None] * 5 + ["done"], (1, 4, [])))
        self.assertEqual(world.paper()[0][0][1:], [(2, ("make", 1, "g", 4, FILE)), (3, ("write", 4, 0, "newer")),
                                                   (5, ("move", 1, "g", 1, "f"))])
        for ask, answer in (
            (("whole", "A", "x", "g"), refused("NoPath", "A")), (("whole", "/", "x", "g"), refused("Fault", "form", "/", ())),
            (("whole", "d/f", "\t", "g"), refused("NoChange", "form")), (("whole", "d/f", "", "f"), refused("NoPath", "f")),
            (("whole", "d/f", "", None), refused("NoPath", None)),
        ):
            told, row, moments = self.through(world, ask)
            self.assertEqual((told, moments), ([answer], (4, 4, [])))
        # Refused amid: beside was struck by another one.
        told, row, moments = self.through(world, ("whole", "d/f", "x", "g"), between=[
            ("step", 1), ("step", 1), ("do", 0, 0, ("strike", "d/g"))])
        self.assertEqual((row[5], moments), (refused("NoChange", "absent"), (4, 7, [])))
        self.assertEqual(world.busy(), [])

    def test_an_unpack(self):
        world = begun()
        text = archive("folder 5 .", "folder 0 q", "file 0 1 q/f\nx", "again q/g q/f")
        told, row, moments = self.through(world, ("unpack", "d", text), between=[("step", 1), ("do", 0, 0, ("mark", "l", 1))])
        self.assertEqual((told, row[5], moments), ([None] + ["between"] * 2 + [None, None, [2, 4, 5, 6]],
                                                   [2, 4, 5, 6], (1, 6, [2, 4, 5, 6])))
        for ask, answer in (
            (("unpack", "d/f", text), refused("Fault", "kind", "d/f", ((0, "d", 1), (1, "f", 2)))),
            (("unpack", "d", text + "x"), refused("NoArchive", 5)), (("unpack", "d", text), refused("There", 3)),
        ):
            told, row, moments = self.through(world, ask)
            self.assertEqual((told, moments), ([answer], (6, 6, [])))
        # Refused amid.
        text = archive("folder 0 .", "folder 0 q", "folder 0 q/r")
        told, row, moments = self.through(world, ("unpack", "l", text), between=[
            ("step", 1), ("do", 0, 0, ("move", "d", "e")),
        ])
        self.assertEqual((row[5], moments[2]), ([7, 9, 10], [7, 9, 10]))
        told, row, moments = self.through(world, ("unpack", "e", archive("folder 0 .", "folder 0 z", "folder 0 z/r")), between=[
            ("step", 1), ("step", 1), ("do", 0, 0, ("strike", "e/z"))])
        self.assertEqual((row[5], moments), (refused("Outside", 3), (10, 13, [])))

    def test_a_copy(self):
        world = begun(many=2)
        told, row, moments = self.through(world, ("copy", "/", 1, "."), between=[("step", 1), ("do", 0, 0, ("strike", "l"))])
        pieces = [("names", 0, 1), ("thing", 1, 2), ("names", 1, 2), ("thing", 2, 2), ("thing", 3, 2)]
        self.assertEqual((row[5], moments), ((pieces, [3], None), (1, 2, [1, 2, 2, 2, 2])))
        self.assertEqual(world.house(1).read("d/f"), "hello")
        self.assertEqual([beat for beat, _ in world.paper()[0][1]], [4, 6])
        self.assertEqual((world.record()[1][3], world.record()[1][4]), (0, ("copy", "/", 1, ".")))
        told, row, moments = self.through(world, ("copy", "/", 0, "d"), house=1)
        self.assertEqual((row[5], moments), (([("names", 0, 2), ("thing", 1, 2), ("names", 1, 2), ("thing", 2, 2)], [], 2),
                                             (2, 2, [2, 2, 2, 2])))
        self.assertEqual(world.house(0).read("d/d/f"), "hello")
        for ask, answer in (
            (("copy", "d/f", 1, "q"), refused("Fault", "kind", "d/f", ((0, "d", 1), (1, "f", 2)))),
            (("copy", "d", 1, "q"), refused("Fault", "absent", "q", ())), (("copy", None, 1, "A"), refused("NoPath", None)),
        ):
            told, row, moments = self.through(world, ask)
            self.assertEqual((told, moments), ([answer], (world.house(0).moment(),) * 2 + ([],)))

    def test_falls(self):
        asks = [("going", "d/f"), ("walk", 0), ("whole", "d/f", "x", "g"), ("unpack", "d", archive("folder 0 .", "folder 0 q"))]
        for ask in asks:
            world = begun(("do", 0, 0, ("watch", 0, True, 20)), ("do", 0, 0, ("open", "d/f")), ("do", 0, 0, ("keep names",)))
            told, row, moments = self.through(world, ask, between=[
                ("step", 1), ("fall", 0, 10 ** 9), ("do", 2, 0, ("make", "n", FOLDER))])
            since = world.house(0).moment()
            self.assertEqual((row[5], moments), (refused("Fallen", since), (1, since, [])), ask)
            for words in (("taken", 0), ("look", 0)):
                self.assertEqual(asked(world, *words), refused("Fallen", since))
            self.assertEqual(asked(world, "text", 0), refused("NoHandle", 0))
            self.assertEqual((asked(world, "open", "d/f"), asked(world, "watch", 0, True, 1)), (1, 1))
        for fallen in ((0,), (1,), (0, 1)):
            world = begun(many=2)
            told, row, moments = self.through(world, ("copy", "/", 1, "/"), between=[("step", 1)] + [
                ("fall", house, 0) for house in fallen])
            since = world.house(fallen[0]).moment()
            self.assertEqual((row[5], moments), (refused("Fallen", since), (1, world.house(0).moment(), [])))

    def test_a_falls_choice_and_record(self):
        world = World()
        world.play([("do", 0, 0, ("make", "a", FILE)), ("do", 0, 0, ("open", "a")), ("do", 0, 0, ("write", 0, 0, "abc"))])
        # Two choices of names; with the file, four of its write.
        due = {0: (0, ()), 1: (1, ((1, 0, 0),)), 2: (0, ()), 3: (1, ((1, 0, 1),)), 5: (1, ((1, 0, 2),)), 7: (1, ((1, 1, 0),))}
        for number, choice in due.items():
            twin = world.twin()
            told = twin.play([("fall", 0, number)])
            self.assertEqual(twin.record()[-1], (None, 3, 3, 0, ("fall", choice), told[0]))
            self.assertEqual((told, twin.paper()[1][-1]), ([twin.house(0).moment()], (told[0], told[0], [])))
            beats = [beat for beat, _ in twin.paper()[0][0]]
            self.assertEqual(beats, [0, 2] + [3] * (told[0] - 2))


class TestTold(unittest.TestCase):
    def test_told_lists_are_the_askers_own(self):
        world = begun(("begin", 1, 0, ("walk", 0)), ("step", 1), ("step", 1), ("do", 0, 0, ("road", "d")), many=2)
        rows = [("do", 0, 0, ("all", [("mark", 0, 1)])), ("do", 2, 0, ("read", [1, [2]]))]
        answers = world.play(rows)
        record, paper = copy.deepcopy(world.record()), copy.deepcopy(world.paper())
        rows[0][3][1].append(("mark", 0, 2))
        rows[1][3][1][1].append(3)
        answers[1][2][0].clear()
        answers.clear()
        told = world.record()
        told[1][5].clear()
        told[-1][5][2][0][1].clear()
        told[-2][4][1].clear()
        told[2][5][0].clear()
        told.clear()
        rows, moments = world.paper()
        rows[0].clear()
        rows.clear()
        moments[1][2].clear()
        moments.clear()
        world.house(0).make("zz", FILE)
        world.busy().append(3)
        self.assertEqual((world.record(), world.paper(), world.busy()), (record, paper, []))

    def test_twins(self):
        world = begun(("begin", 1, 0, ("going", "d/f")), ("step", 1))
        twin = world.twin()
        rows = [("step", 1), ("step", 1), ("do", 0, 0, ("make", "x", FILE))]
        self.assertEqual(twin.play(rows), world.twin().play(rows))
        self.assertEqual((world.beats(), world.busy(), twin.beats(), twin.busy()), (3, [1], 6, []))
        self.assertEqual(world.play(rows), [None, ([(0, "d", 1), (1, "f", 2)], 2), 4])
        self.assertEqual((world.record(), world.paper()), (twin.record(), twin.paper()))

    def test_one_by_one_in_pieces_and_at_once(self):
        for seed in range(60):
            chance = random.Random(seed)
            world, rows = drawn_world(chance, 50)
            many = len(world.paper()[0])
            one = World(many)
            answers = [one.play([row])[0] for row in rows]
            whole = World(many)
            self.assertEqual(repr(whole.play(rows)), repr(answers))
            parted = World(many)
            cut = chance.randrange(len(rows))
            told = parted.play(rows[:cut])
            twin = parted.twin()
            with self.assertRaises(NoWeaving):
                parted.play(rows[cut:] + [None])
            self.assertEqual(repr(told + parted.play(rows[cut:])), repr(answers))
            self.assertEqual(repr(told + twin.play(rows[cut:])), repr(answers))
            for other in (one, whole, parted, twin):
                self.assertEqual(repr((other.record(), other.paper())), repr((world.record(), world.paper())))
                self.assertEqual((other.busy(), other.beats(), len(other)), (world.busy(), len(rows), len(world.record())))

    def test_records_and_papers_by_chance(self):
        for seed in range(100):
            chance = random.Random(seed)
            world, rows = drawn_world(chance, 60)
            record, (entries, moments) = world.record(), world.paper()
            self.assertEqual(len(record), len(moments))
            for number, row in enumerate(entries):
                self.assertEqual([entry for _, entry in row], world.house(number).row())
                self.assertEqual([beat for beat, _ in row], sorted(beat for beat, _ in row))
            begins = [told[1] for told in record]
            self.assertEqual(begins, sorted(set(begins)))
            due = [(row[1:] if row[0] != "fall" else (None, row[1])) for row in rows if row[0] != "step"]
            self.assertEqual(len(due), len(record))
            for (asker, begin, end, house, ask, answer), span, row in zip(record, moments, due):
                self.assertEqual((asker, house), row[:2])
                if asker is not None:
                    self.assertEqual(repr(ask), repr(own(row)[2]))
                if end is None:
                    self.assertEqual((answer, span, asker in world.busy()), (None, None, True))
                    continue
                # From and to are the house's moments by the beats of its entries.
                beats = [beat for beat, _ in entries[house]]
                first = len([beat for beat in beats if beat <= begin])
                last = len([beat for beat in beats if beat <= end])
                self.assertEqual(span[:2], (first, last))
                self.assertTrue(all(first <= piece <= last for piece in span[2]))


if __name__ == "__main__":
    unittest.main()
