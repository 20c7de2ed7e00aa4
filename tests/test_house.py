"""Points 10 and 11: houses, deeds by paths, handles."""

import random
import unittest

from onehistory.changes import is_change
from onehistory.errors import Fault, NoChange, NoHandle, NoMoment, NoPath, NoRow, NoThing
from onehistory.house import House
from onehistory.rows import tree_at
from onehistory.tree import Tree
from tests.naive import some_change, told
from tests.naive_roads import Lost, naive_place, naive_road
from tests.test_roads import NO_PATHS, some_path, some_row
from tests.test_tree import FILE, FOLDER
from tests.things import NO_NUMBERS, ODD

# 0: a 1 (b 2 (f 3), f 3), f 4, l 5 (a/b), e 6, lf 7 (f); 8 is a loose folder, 9 a loose file.
ROW = (
    ("make", 0, "a", 1, FOLDER), ("make", 1, "b", 2, FOLDER), ("make", 2, "f", 3, FILE), ("make", 0, "f", 4, FILE),
    ("name", 1, "f", 3), ("make", 0, "l", 5, ("link", "a/b")), ("make", 0, "e", 6, FOLDER),
    ("make", 0, "lf", 7, ("link", "f")), ("write", 3, 0, "hello"), ("write", 4, 0, "root"),
    ("make", 0, "x", 8, FOLDER), ("strike", 0, "x"), ("make", 0, "x", 9, FILE), ("strike", 0, "x"),
)
NOW = len(ROW)


def state(house):
    """All that a house tells."""
    return house.row(), told(house.now()), house.falls(), house.opened(), house.moment(), len(house)


class Refusing(unittest.TestCase):
    def refused(self, kind, field, ask, house=None):
        """The field of the refusal, behind which the house is as ahead of it."""
        before = None if house is None else state(house)
        with self.assertRaises(kind) as caught:
            ask()
        if house is not None:
            self.assertEqual(state(house), before)
        fault = caught.exception
        return tuple(getattr(fault, name) for name in field.split()) if " " in field else getattr(fault, field)


class TestRow(Refusing):
    def test_of_none(self):
        house = House()
        self.assertEqual((house.moment(), house.falls(), house.row(), len(house), house.opened()), (0, 0, [], 0, {}))
        self.assertEqual(house.tree(), Tree())
        self.assertEqual(House([]).row(), [])
        self.assertEqual(House(()).row(), [])

    def test_of_a_row(self):
        for row in (ROW, list(ROW)):
            house = House(row)
            self.assertEqual((house.moment(), house.falls(), house.row(), len(house)), (NOW, 0, list(ROW), NOW))
            self.assertEqual(told(house.now()), told(tree_at(ROW)))
        house = House(row=ROW + (("cut back", 3), ("cut back", 0)))
        self.assertEqual((house.moment(), house.falls(), house.now().last()), (NOW + 2, 0, 9))

    def test_of_no_row(self):
        for thing in (None, True, 0, "row", {}, {1}, b"", range(0), object()):
            self.assertIsNone(self.refused(NoRow, "number", lambda: House(thing)))
        for row, number in (([None], 0), (ROW + (("strike", 0, "a"),), NOW), ([("cut back", 1)], 0), (["a", 1], 0)):
            self.assertEqual(self.refused(NoRow, "number", lambda: House(row)), number)

    def test_what_was_handed_in_is_not_kept(self):
        row = list(ROW)
        house = House(row)
        row.clear()
        self.assertEqual(house.row(), list(ROW))
        row = list(ROW)
        house = House(row)
        house.make("n", FILE)
        self.assertEqual(row, list(ROW))

    def test_changes(self):
        house = House()
        self.assertEqual(house.change(("make", 0, "a", 1, FOLDER)), 1)
        self.assertEqual(house.change(change=("all", (("make", 1, "b", 2, FILE), ("write", 2, 0, "x")))), 2)
        self.assertEqual((house.moment(), len(house), house.now().text(2)), (2, 2, "x"))
        self.assertEqual(house.row(), [("make", 0, "a", 1, FOLDER), ("all", (("make", 1, "b", 2, FILE), ("write", 2, 0, "x")))])

    def test_no_changes(self):
        house = House(ROW)
        for thing in ODD + (("cut back", 0), ("cut back", NOW), ["mark", 0, 1], (), ("mark", 0, 1000)):
            with self.subTest(thing=thing):
                self.assertEqual(self.refused(NoChange, "word", lambda: house.change(thing), house), "form")
        for change, word in ((("strike", 0, "zz"), "absent"), (("strike", 0, "a"), "full"), (("make", 0, "n", 9, FILE), "thing"),
                             (("all", (("mark", 0, 1), ("cut", 3, 6))), "size")):
            self.assertEqual(self.refused(NoChange, "word", lambda: house.change(change), house), word)

    def test_do_all(self):
        house = House()
        changes = [("make", 0, "a", 1, FOLDER), ("make", 1, "b", 2, FILE)]
        self.assertEqual(house.do_all(changes), 1)
        self.assertEqual(house.row(), [("all", tuple(changes))])
        changes.clear()
        self.assertEqual(len(house.row()[0][1]), 2)
        self.assertEqual(house.do_all((("mark", 1, 7),)), 2)
        self.assertEqual(house.do_all(changes=[("mark", 1, 8)] * 200), 3)
        self.assertEqual(house.row()[1:], [("all", (("mark", 1, 7),)), ("all", (("mark", 1, 8),) * 200)])

    def test_do_all_refused(self):
        house = House(ROW)
        one = ("mark", 0, 1)
        for thing in ODD + ((), [], "ab", 1, one, [one] * 201, [list(one)], [("all", (one,))], [one, None], {one: 1},
                            iter([one]), {one}, [("cut back", 0)]):
            with self.subTest(thing=thing):
                self.assertEqual(self.refused(NoChange, "word", lambda: house.do_all(thing), house), "form")
        self.assertEqual(self.refused(NoChange, "word", lambda: house.do_all([one, ("strike", 0, "zz")]), house), "absent")
        self.assertEqual(self.refused(NoChange, "word", lambda: house.do_all([("cut", 3, 9), ("strike", 0, "zz")]), house), "size")

    def test_cut_back(self):
        house = House(ROW)
        self.assertEqual(house.cut_back(3), NOW + 1)
        self.assertEqual((house.falls(), house.row()[-1], len(house)), (1, ("cut back", 3), NOW + 1))
        self.assertEqual((house.now().things(), house.now().last()), ([0, 1, 2, 3], 9))
        self.assertEqual(house.make("n", FILE), 10)
        self.assertEqual(house.cut_back(moment=NOW + 2), NOW + 3)
        self.assertEqual((house.falls(), house.now().things()), (2, [0, 1, 2, 3, 10]))
        self.assertEqual(house.cut_back(0), NOW + 4)
        self.assertEqual((house.falls(), house.now().things(), house.now().last()), (3, [0], 10))

    def test_no_moments(self):
        house = House(ROW)
        house.grasp("f")
        for moment in NO_NUMBERS + (NOW + 1, 10 ** 29):
            if moment is None:
                continue
            for ask in (house.cut_back, house.tree):
                with self.subTest(moment=moment, ask=ask):
                    self.assertIs(self.refused(NoMoment, "thing", lambda: ask(moment), house), moment)
        self.assertIsNone(self.refused(NoMoment, "thing", lambda: house.cut_back(None), house))

    def test_the_tree_as_at_each_moment(self):
        house = House(ROW[:5])
        for entry in ROW[5:]:
            house.change(entry)
        house.cut_back(6)
        house.make("n", FOLDER)
        row = house.row()
        for moment in range(len(row) + 1):
            self.assertEqual(told(house.tree(moment)), told(tree_at(row, moment)))
            self.assertEqual(told(house.tree(moment=moment)), told(tree_at(row[:moment])))
        self.assertEqual(told(house.tree()), told(tree_at(row)))
        self.assertEqual(told(house.now()), told(tree_at(row)))
        self.assertEqual(told(house.tree(None)), told(tree_at(row)))

    def test_what_is_told_is_the_askers_own(self):
        house = House(ROW)
        before = state(house)
        house.row().clear()
        house.row().append(None)
        for tree in (house.tree(), house.tree(NOW), house.tree(3), house.tree(0)):
            tree.do(("make", 0, "spoilt", tree.last() + 1, FILE))
            tree.names(0).clear()
        self.assertEqual(state(house), before)
        self.assertEqual(told(house.tree(3)), told(tree_at(ROW, 3)))
        self.assertEqual(told(house.tree(0)), told(Tree()))
        tree = house.tree()
        house.strike("f")
        self.assertEqual(told(tree), told(tree_at(ROW)))
        house.opened()[7] = 3
        self.assertEqual(house.opened(), {})
        house.listed("a").clear()
        self.assertEqual(house.listed("a"), ["b", "f"])

    def test_twins(self):
        house = House(ROW)
        house.cut_back(NOW)
        one, two = house.grasp("f"), house.grasp("a/f")
        house.close(one)
        twin = house.twin()
        self.assertIs(type(twin), House)
        self.assertEqual(state(twin), state(house))
        self.assertEqual((twin.falls(), twin.opened()), (1, {two: 3}))
        twin.write(two, 0, "J")
        self.assertEqual((twin.text(two), house.text(two)), ("Jello", "hello"))
        self.assertEqual((twin.grasp("f"), house.grasp("f")), (2, 2))
        house.close(two)
        house.strike("f")
        self.assertEqual((twin.opened(), house.opened()), ({1: 3, 2: 4}, {2: 4}))
        self.assertEqual((twin.listed("."), house.listed(".")), (["a", "e", "f", "l", "lf"], ["a", "e", "l", "lf"]))
        before = state(house)
        twin.cut_back(0)
        self.assertEqual((state(house), twin.falls()), (before, 2))
        self.assertEqual((len(twin), len(house)), (NOW + 3, NOW + 2))


# Each row: the deed, what is asked, further arguments, the entry that it does, what is told.
DEEDS = (
    ("make", ("n", FILE), {}, ("make", 0, "n", 10, FILE), 10),
    ("make", ("/a/n", ("link", "..")), {"at": 2}, ("make", 1, "n", 10, ("link", "..")), 10),
    ("make", ("/n", FOLDER), {"at": 2, "held": True}, ("make", 2, "n", 10, FOLDER), 10),
    ("make", ("l/n", FOLDER), {}, ("make", 2, "n", 10, FOLDER), 10),
    ("make", ("../n", FILE), {"at": 1}, ("make", 0, "n", 10, FILE), 10),
    ("make", ("../n", FILE), {"at": 1, "held": True}, ("make", 1, "n", 10, FILE), 10),
    ("strike", ("f",), {}, ("strike", 0, "f"), None),
    ("strike", ("l",), {}, ("strike", 0, "l"), None),
    ("strike", ("l/f",), {}, ("strike", 2, "f"), None),
    ("strike", ("/f",), {"at": 1, "held": True}, ("strike", 1, "f"), None),
    ("move", ("f", "a/n"), {}, ("move", 0, "f", 1, "n"), None),
    ("move", ("b", "../n"), {"at": 1}, ("move", 1, "b", 0, "n"), None),
    ("move", ("b", "../n"), {"at": 1, "held": True}, ("move", 1, "b", 1, "n"), None),
    ("move", ("lf", "f"), {}, ("move", 0, "lf", 0, "f"), None),
    ("move", ("a/f", "l/g"), {}, ("move", 1, "f", 2, "g"), None),
    ("exchange", ("f", "a/b"), {}, ("exchange", 0, "f", 1, "b"), None),
    ("exchange", ("/f", "b/f"), {"at": 1}, ("exchange", 0, "f", 2, "f"), None),
    ("exchange", ("/b", "f"), {"at": 1, "held": True}, ("exchange", 1, "b", 1, "f"), None),
    ("name", ("f", "a/g"), {}, ("name", 1, "g", 4), None),
    ("name", ("lf", "l/g"), {}, ("name", 2, "g", 4), None),
    ("name", ("b/f", "/g"), {"at": 1, "held": True}, ("name", 1, "g", 3), None),
    ("mark", ("f", 7), {}, ("mark", 4, 7), None),
    ("mark", ("lf", 7), {}, ("mark", 4, 7), None),
    ("mark", ("lf", 7), {"follow": False}, ("mark", 7, 7), None),
    ("mark", ("l/f", 7), {"follow": False}, ("mark", 3, 7), None),
    ("mark", (".", 0), {"at": 1}, ("mark", 1, 0), None),
    ("mark", ("/", 999), {"at": 1}, ("mark", 0, 999), None),
    ("mark", ("/", 999), {"at": 1, "held": True}, ("mark", 1, 999), None),
    ("mark", (".", 1), {"at": 8}, ("mark", 8, 1), None),
)
# Each row: the deed, what is asked, further arguments, the fault's word, the path, the steps so far.
FAULTS = (
    ("make", (".", FILE), {}, "form", ".", ()),
    ("make", ("zz/n", FILE), {}, "absent", "zz/n", ()),
    ("make", ("f/n", FILE), {}, "kind", "f/n", ((0, "f", 4),)),
    ("make", ("../n", FILE), {"at": 8}, "loose", "../n", ()),
    ("strike", ("/",), {}, "form", "/", ()),
    ("strike", ("zz/n",), {}, "absent", "zz/n", ()),
    ("move", ("..", "n"), {}, "form", "..", ()),
    ("move", ("f", "zz/n"), {}, "absent", "zz/n", ()),
    ("move", ("f", "."), {}, "form", ".", ()),
    ("exchange", ("zz/n", "f"), {}, "absent", "zz/n", ()),
    ("exchange", ("f", "f/a"), {}, "kind", "f/a", ((0, "f", 4),)),
    ("name", ("a", "n"), {}, "kind", "a", ((0, "a", 1),)),
    ("name", (".", "n"), {}, "kind", ".", ()),
    ("name", ("l", "n"), {}, "kind", "l", ((0, "l", 5), (0, "a", 1), (1, "b", 2))),
    ("name", ("zz", "n"), {}, "absent", "zz", ()),
    ("name", ("f", "."), {}, "form", ".", ()),
    ("mark", ("zz", 1), {}, "absent", "zz", ()),
    ("mark", ("f/..", 1), {}, "kind", "f/..", ((0, "f", 4),)),
    ("mark", ("..", 1), {"at": 8}, "loose", "..", ()),
    ("read", ("a",), {}, "kind", "a", ((0, "a", 1),)),
    ("read", (".",), {}, "kind", ".", ()),
    ("read", ("l",), {}, "kind", "l", ((0, "l", 5), (0, "a", 1), (1, "b", 2))),
    ("read", ("zz",), {}, "absent", "zz", ()),
    ("read", ("f/f",), {}, "kind", "f/f", ((0, "f", 4),)),
    ("listed", ("f",), {}, "kind", "f", ((0, "f", 4),)),
    ("listed", ("lf",), {}, "kind", "lf", ((0, "lf", 7), (0, "f", 4))),
    ("listed", ("zz",), {}, "absent", "zz", ()),
    ("grasp", ("a",), {}, "kind", "a", ((0, "a", 1),)),
    ("grasp", ("zz",), {}, "absent", "zz", ()),
    ("grasp", ("/",), {"at": 1, "held": True}, "kind", "/", ()),
)
# Each row: the deed, what is asked, further arguments, the word of NoChange.
NO_CHANGES = (
    ("make", ("n", "file"), {}, "form"),
    ("make", ("n", ("link",)), {}, "form"),
    ("make", ("a", FILE), {}, "there"),
    ("make", ("n", FILE), {"at": 8}, "loose"),
    ("make", ("a", None), {}, "form"),
    ("make", ("n", None), {"at": 8}, "form"),
    ("strike", ("n",), {}, "absent"),
    ("strike", ("a",), {}, "full"),
    ("strike", ("n",), {"at": 8}, "absent"),
    ("move", ("n", "m"), {}, "absent"),
    ("move", ("a", "l/n"), {}, "within"),
    ("move", ("a/f", "l/f"), {}, "same"),
    ("move", ("e", "a"), {}, "full"),
    ("move", ("f", "e"), {}, "kind"),
    ("exchange", ("f", "n"), {}, "absent"),
    ("exchange", ("a", "a/b"), {}, "within"),
    ("exchange", ("a/f", "a/b/f"), {}, "same"),
    ("name", ("f", "a"), {}, "there"),
    ("mark", ("f", 1000), {}, "form"),
    ("mark", ("f", True), {}, "form"),
    ("mark", ("f", -1), {}, "form"),
    ("mark", ("f", "1"), {}, "form"),
)


class TestDeeds(Refusing):
    def ask(self, house, word, asked, more):
        return {
            "make": house.make, "strike": house.strike, "move": house.move, "exchange": house.exchange, "name": house.name,
            "mark": house.mark, "read": house.read, "listed": house.listed, "grasp": house.grasp,
        }[word](*asked, **more)

    def test_done(self):
        for word, asked, more, entry, due in DEEDS:
            with self.subTest(word=word, asked=asked, **more):
                house = House(ROW)
                self.assertEqual(self.ask(house, word, asked, more), due)
                self.assertEqual(house.row(), [*ROW, entry])
                self.assertEqual(told(house.now()), told(tree_at((*ROW, entry))))

    def test_faults(self):
        house = House(ROW)
        for word, asked, more, why, path, gone in FAULTS:
            with self.subTest(word=word, asked=asked, **more):
                self.assertEqual(self.refused(Fault, "word path gone", lambda: self.ask(house, word, asked, more), house),
                                 (why, path, gone))

    def test_no_changes(self):
        house = House(ROW)
        for word, asked, more, why in NO_CHANGES:
            with self.subTest(word=word, asked=asked, **more):
                self.assertEqual(self.refused(NoChange, "word", lambda: self.ask(house, word, asked, more), house), why)

    def test_every_form_of_what(self):
        house = House(ROW)
        for thing in ODD + ("folder", ["file"], ("link", ""), ("link", "A"), (), ("root",)):
            self.assertEqual(self.refused(NoChange, "word", lambda: house.make("n", thing), house), "form")

    def test_told(self):
        house = House(ROW)
        self.assertEqual((house.read("f"), house.read("a/f"), house.read("l/f"), house.read("lf")),
                         ("root", "hello", "hello", "root"))
        self.assertEqual((house.read("/f", at=1), house.read("/f", at=1, held=True)), ("root", "hello"))
        self.assertEqual((house.listed("/"), house.listed("."), house.listed("l")),
                         (["a", "e", "f", "l", "lf"], ["a", "e", "f", "l", "lf"], ["f"]))
        self.assertEqual((house.listed("e"), house.listed(".", at=8), house.listed("/", at=1, held=True)), ([], [], ["b", "f"]))
        self.assertEqual(len(house), NOW)

    def test_numbers_go_on_behind_a_fall(self):
        house = House(ROW)
        house.cut_back(1)
        self.assertEqual((house.make("n", FILE), house.make("m", FILE)), (10, 11))

    # What is refused first, where all of these are due.
    def first(self, word, asked, at=0):
        house = House(ROW)
        try:
            self.ask(house, word, asked, {"at": at})
        except (NoPath, NoThing, Fault, NoChange) as why:
            self.assertEqual(state(house), state(House(ROW)))
            if isinstance(why, Fault):
                return "Fault", why.word, why.path
            return type(why).__name__, *vars(why).values()
        return None

    def test_which_goes_first(self):
        for word in ("move", "exchange"):
            self.assertEqual(self.first(word, ("A", "B"), 99), ("NoPath", "A"))
            self.assertEqual(self.first(word, ("zz/n", "B"), 99), ("NoThing", 99))
            self.assertEqual(self.first(word, ("zz/n", "B"), True), ("NoThing", True))
            self.assertEqual(self.first(word, ("zz/n", "B")), ("Fault", "absent", "zz/n"))
            self.assertEqual(self.first(word, (".", "B")), ("Fault", "form", "."))
            self.assertEqual(self.first(word, ("n", "B")), ("NoPath", "B"))
            self.assertEqual(self.first(word, ("n", "f/m")), ("Fault", "kind", "f/m"))
            self.assertEqual(self.first(word, ("n", "m")), ("NoChange", "absent"))
        self.assertEqual(self.first("name", ("A", "B"), 99), ("NoPath", "A"))
        self.assertEqual(self.first("name", ("a", "B"), 4), ("NoThing", 4))
        self.assertEqual(self.first("name", ("a", "B")), ("Fault", "kind", "a"))
        self.assertEqual(self.first("name", ("f", "B")), ("NoPath", "B"))
        self.assertEqual(self.first("name", ("f", "zz/..")), ("Fault", "form", "zz/.."))
        self.assertEqual(self.first("name", ("f", "a")), ("NoChange", "there"))
        for word, wrong in (("make", None), ("mark", 1000)):
            self.assertEqual(self.first(word, ("A", wrong), 99), ("NoPath", "A"))
            self.assertEqual(self.first(word, ("zz/n", wrong), 99), ("NoThing", 99))
            self.assertEqual(self.first(word, ("zz/n", wrong)), ("Fault", "absent", "zz/n"))
            self.assertEqual(self.first(word, ("f", wrong)), ("NoChange", "form"))

    def test_no_paths_and_no_folders(self):
        house = House(ROW)
        more = {"make": (FILE,), "mark": (1,), "move": ("n",), "exchange": ("n",), "name": ("n",)}
        for word in ("make", "strike", "move", "exchange", "name", "mark", "read", "listed", "grasp"):
            rest = more.get(word, ())
            for path in NO_PATHS:
                for at in (0, 99):
                    self.assertIs(self.refused(NoPath, "thing", lambda: self.ask(house, word, (path, *rest), {"at": at})), path)
            for at in NO_NUMBERS + (3, 4, 5, 9, 10):
                self.assertIs(self.refused(NoThing, "thing", lambda: self.ask(house, word, ("f", *rest), {"at": at})), at)
        for word in ("move", "exchange", "name"):
            for path in NO_PATHS:
                self.assertIs(self.refused(NoPath, "thing", lambda: self.ask(house, word, ("f", path), {})), path)
        self.assertEqual(state(house), state(House(ROW)))

    def test_by_the_names_of_the_interface(self):
        house = House(ROW)
        self.assertEqual(house.make(path="n", what=FILE, at=1, held=True), 10)
        house.strike(path="n", at=1, held=True)
        house.move(path="f", other="n", at=1, held=True)
        house.exchange(path="n", other="b", at=1, held=True)
        house.name(path="b", other="f", at=1, held=True)
        house.mark(path="n", number=3, at=1, held=True, follow=False)
        self.assertEqual(house.read(path="f", at=1, held=True), "hello")
        self.assertEqual(house.listed(path="n", at=1, held=True), ["f"])
        handle = house.grasp(path="f", at=1, held=True)
        house.write(handle=handle, start=0, signs="J")
        self.assertEqual(house.text(handle=handle, start=0, size=2), "Je")
        house.cut(handle=handle, size=1)
        self.assertEqual(house.file_of(handle=handle), 3)
        house.close(handle=handle)
        for wrong in (lambda: house.strike("f", 0), lambda: house.read("f", 0), lambda: house.text(0, 0),
                      lambda: house.mark("f", 1, 0)):
            self.assertRaises(TypeError, wrong)


class TestHandles(Refusing):
    def test_numbered_as_they_are_opened(self):
        house = House(ROW)
        self.assertEqual([house.grasp(path) for path in ("f", "a/f", "f", "lf")], [0, 1, 2, 3])
        self.assertEqual(house.opened(), {0: 4, 1: 3, 2: 4, 3: 4})
        self.assertEqual([house.file_of(handle) for handle in range(4)], [4, 3, 4, 4])
        self.assertIsNone(house.close(1))
        self.assertEqual(house.opened(), {0: 4, 2: 4, 3: 4})
        self.assertEqual(house.grasp("a/f"), 4)
        self.assertEqual(list(house.opened()), [0, 2, 3, 4])
        self.assertEqual(len(house), NOW)

    def test_numbered_on_behind_a_fall(self):
        house = House(ROW)
        house.grasp("f")
        house.grasp("f")
        house.cut_back(NOW)
        self.assertEqual(house.opened(), {})
        for handle in (0, 1):
            self.assertEqual(self.refused(NoHandle, "thing", lambda: house.text(handle), house), handle)
        self.assertEqual((house.grasp("f"), house.opened()), (2, {2: 4}))
        house.close(2)
        house.cut_back(NOW)
        self.assertEqual(house.grasp("f"), 3)

    def test_what_opens_none_counts_none(self):
        house = House(ROW)
        for path in ("a", "zz", "A"):
            with self.assertRaises((Fault, NoPath)):
                house.grasp(path)
        self.assertEqual(house.grasp("f"), 0)

    def test_written_and_cut(self):
        house = House(ROW)
        handle = house.grasp("a/f")
        self.assertIsNone(house.write(handle, 1, "ipp"))
        self.assertIsNone(house.write(handle, 5, "!"))
        self.assertEqual((house.text(handle), house.read("a/b/f")), ("hippo!", "hippo!"))
        self.assertIsNone(house.cut(handle, 3))
        self.assertEqual(house.text(handle), "hip")
        self.assertEqual(house.row()[NOW:], [("write", 3, 1, "ipp"), ("write", 3, 5, "!"), ("cut", 3, 3)])
        for ask, word in (
            (lambda: house.write(handle, 4, "x"), "size"), (lambda: house.write(handle, 0, "x" * 201), "form"),
            (lambda: house.write(handle, 1, "x" * 200), "size"), (lambda: house.write(handle, True, "x"), "form"),
            (lambda: house.write(handle, -1, "x"), "form"), (lambda: house.write(handle, 0, None), "form"),
            (lambda: house.cut(handle, 4), "size"), (lambda: house.cut(handle, -1), "form"), (lambda: house.cut(handle, None), "form"),
        ):
            self.assertEqual(self.refused(NoChange, "word", ask, house), word)

    def test_read_in_part(self):
        house = House(ROW)
        handle = house.grasp("a/f")
        for more, text in (
            ({}, "hello"), ({"start": 0}, "hello"), ({"start": 1}, "ello"), ({"start": 5}, ""), ({"start": 9}, ""),
            ({"size": 0}, ""), ({"size": 2}, "he"), ({"size": 5}, "hello"), ({"size": 99}, "hello"), ({"size": None}, "hello"),
            ({"start": 1, "size": 3}, "ell"), ({"start": 4, "size": 3}, "o"), ({"start": 7, "size": 1}, ""),
            ({"start": 2, "size": 0}, ""), ({"start": 10 ** 29, "size": 10 ** 29}, ""),
        ):
            self.assertEqual(house.text(handle, **more), text)

    def test_size(self):
        house = House(ROW)
        handle = house.grasp("a/f")
        for thing in NO_NUMBERS:
            if thing == 10 ** 29:
                continue
            self.assertEqual(self.refused(NoChange, "word", lambda: house.text(handle, start=thing), house), "size")
            self.assertEqual(self.refused(NoHandle, "thing", lambda: house.text(9, start=thing), house), 9)
            if thing is not None:
                self.assertEqual(self.refused(NoChange, "word", lambda: house.text(handle, size=thing), house), "size")

    def test_no_handles(self):
        house = House(ROW)
        for _ in range(3):
            house.grasp("f")
        house.close(1)
        for thing in NO_NUMBERS + (1, 3, 10 ** 29):
            for ask in (house.text, house.close, house.file_of, lambda thing: house.write(thing, None, None),
                        lambda thing: house.cut(thing, None), lambda thing: house.write(thing, 0, "x"),
                        lambda thing: house.cut(thing, 0)):
                with self.subTest(thing=thing):
                    self.assertIs(self.refused(NoHandle, "thing", lambda: ask(thing), house), thing)

    def test_held_while_names_go_and_come(self):
        house = House(ROW)
        handle = house.grasp("f")
        house.move("f", "a/g")
        house.make("f", FILE)
        house.write(handle, 0, "R")
        self.assertEqual((house.read("a/g"), house.read("f"), house.file_of(handle)), ("Root", "", 4))
        house.strike("a/g")
        self.assertEqual(house.now().loose(), [4, 8, 9])
        house.write(handle, 4, "!")
        house.cut(handle, 5)
        self.assertEqual((house.text(handle), house.opened()), ("Root!", {0: 4}))
        house.change(("name", 1, "back", 4))
        self.assertEqual((house.read("a/back"), house.text(handle)), ("Root!", "Root!"))


class TestByChance(unittest.TestCase):
    def due(self, tree, word, paths, rest, at, held):
        """What a deed asks of the house, or its fault, by the second telling of roads."""
        path = paths[0]
        try:
            if word == "mark":
                return ("mark", naive_road(tree, path, at, held)[1], *rest)
            if word == "name":
                gone, found = naive_road(tree, path, at, held)
                if tree.kind(found) != "file":
                    raise Lost("kind", tuple(gone), ())
                path = paths[1]
                return ("name", *naive_place(tree, path, at, held), found)
            places = []
            for path in paths:
                places.extend(naive_place(tree, path, at, held))
            return (word, *places, *((tree.last() + 1, *rest) if word == "make" else ()))
        except Lost as lost:
            return "fault", lost.word, path, lost.gone

    def test_against_a_second_telling(self):
        chance = random.Random(11)
        seen = {}
        for _ in range(120):
            house = House(some_row(chance))
            for _ in range(30):
                tree = house.tree()
                word = chance.choice(("make", "strike", "move", "exchange", "name", "name", "mark"))
                paths = [some_path(chance, 4) for _ in range(2 if word in ("move", "exchange", "name") else 1)]
                if chance.random() < 0.3:
                    paths[-1] = chance.choice(("d", "/d", "../d", "a/d", "b/d"))
                rest = {"make": (FOLDER,), "mark": (chance.randrange(5),)}.get(word, ())
                at = chance.choice([thing for thing in tree.things() if tree.kind(thing) == "folder"])
                held = chance.random() < 0.3
                due = self.due(tree, word, paths, rest, at, held)
                before = state(house)
                try:
                    getattr(house, word)(*paths, *rest, at=at, held=held)
                    self.assertEqual(house.row(), before[0] + [due])
                    answer = "done"
                except Fault as fault:
                    self.assertEqual(due, ("fault", fault.word, fault.path, fault.gone))
                    self.assertEqual(state(house), before)
                    answer = "fault"
                except NoChange as why:
                    self.assertTrue(is_change(due))
                    with self.assertRaises(NoChange) as caught:
                        tree.do(due)
                    self.assertEqual((caught.exception.word, state(house)), (why.word, before))
                    answer = "no change"
                seen[word, answer] = seen.get((word, answer), 0) + 1
        self.assertGreater(min(seen.values()), 5, seen)
        self.assertEqual(len(seen), 17, seen)

    def test_changes_and_falls_against_a_row(self):
        chance = random.Random(12)
        for _ in range(20):
            house, falls = House(), 0
            for _ in range(60):
                if chance.random() < 0.05:
                    falls += 1
                    self.assertEqual(house.cut_back(chance.randrange(len(house) + 1)), len(house))
                change = some_change(chance, house.now().last())
                if house.now().can(change):
                    self.assertEqual(house.change(change), len(house))
            self.assertEqual((house.falls(), told(house.now())), (falls, told(tree_at(house.row()))))
            self.assertEqual(state(House(house.row()))[:2], state(house)[:2])


if __name__ == "__main__":
    unittest.main()
