"""Points 29, 30 and 31: copies, piece by piece, and (i) of point 3."""

import random
import unittest

from onehistory.copies import Copy
from onehistory.errors import Fallen, Fault, NoPath
from onehistory.house import House
from tests.lively import lively_entry
from tests.test_tree import FILE, FOLDER

# a (1: b 2, c (3: d 4)), e 5
ROW = (
    ("make", 0, "a", 1, FOLDER), ("make", 1, "b", 2, FILE), ("make", 1, "c", 3, FOLDER), ("make", 3, "d", 4, FILE),
    ("make", 0, "e", 5, FILE), ("write", 2, 0, "two"), ("mark", 3, 7), ("write", 4, 0, "four"), ("mark", 4, 9),
)


def stepped(copy, many=None):
    """So many steps are done, all where it is left out."""
    while not copy.is_done() and many != 0:
        told = copy.step()
        assert told is not copy.is_done()
        many = None if many is None else many - 1
    return copy


def beneath_of(tree, folder=0):
    """What is beneath a folder, without numbers: a dict from ways; files are told by all their ways."""
    found = {}

    def go(way, thing):
        found.setdefault(thing, []).append(way)
        if tree.kind(thing) == "folder":
            for name, one in tree.names(thing).items():
                go((*way, name), one)

    go((), folder)
    told = {}
    for thing, ways in found.items():
        kind = tree.kind(thing)
        worth = tree.text(thing) if kind == "file" else tree.target(thing) if kind == "link" else None
        mark = tree.mark(thing) if thing != folder else None
        for way in ways:
            told[way] = (kind, worth, mark, sorted(ways))
    return told


class TestPieces(unittest.TestCase):
    def test_each_piece_and_its_entry(self):
        house, other = House(ROW), House()
        copy = Copy(house=house, path="/", other=other, to="/")
        self.assertEqual((copy.pieces(), copy.left_out(), copy.came_to(), copy.is_done(), copy.as_at()),
                         ([], [], {0: 0}, False, None))
        due = [
            (("names", 0), None), (("thing", 1), ("make", 0, "a", 1, FOLDER)), (("names", 1), None),
            (("thing", 2), ("all", (("make", 1, "b", 2, FILE), ("write", 2, 0, "two")))),
            (("thing", 3), ("all", (("make", 1, "c", 3, FOLDER), ("mark", 3, 7)))), (("names", 3), None),
            (("thing", 4), ("all", (("make", 3, "d", 4, FILE), ("write", 4, 0, "four"), ("mark", 4, 9)))),
            (("thing", 5), ("make", 0, "e", 5, FILE)),
        ]
        row, pieces = [], []
        for number, (piece, entry) in enumerate(due):
            self.assertEqual((copy.is_done(), copy.as_at()), (False, None))
            self.assertIs(copy.step(), number < len(due) - 1)
            pieces.append((*piece, len(ROW)))
            row.extend([entry] if entry else [])
            self.assertEqual((copy.pieces(), other.row()), (pieces, row))
        self.assertEqual((copy.is_done(), copy.as_at(), copy.left_out()), (True, len(ROW), []))
        self.assertEqual(copy.came_to(), {0: 0, 1: 1, 2: 2, 3: 3, 4: 4, 5: 5})
        for _ in range(3):
            self.assertIs(copy.step(), False)
        self.assertEqual((copy.pieces(), other.row(), house.row()), (pieces, row, list(ROW)))

    def test_told_lists_are_the_askers_own(self):
        copy = stepped(Copy(House([*ROW, ("make", 0, "z", 6, FOLDER)]), "/", House(), "/"))
        for told in (copy.pieces, copy.left_out, copy.came_to):
            due = told()
            told().clear()
            self.assertEqual(told(), due)

    def test_an_empty_folder(self):
        house, other = House(), House()
        copy = Copy(house, ".", other, ".")
        self.assertIs(copy.step(), False)
        self.assertEqual((copy.pieces(), copy.as_at(), copy.is_done(), len(other)), ([("names", 0, 0)], 0, True, 0))

    def test_beneath_told_folders(self):
        house = House([*ROW, ("make", 0, "l", 6, ("link", "a"))])
        other = House([("make", 0, "x", 1, FOLDER), ("make", 0, "y", 2, ("link", "x/z")), ("make", 1, "z", 3, FOLDER)])
        copy = stepped(Copy(house, "l", other, "/y"))
        self.assertEqual(beneath_of(other.now(), 3), beneath_of(house.now(), 1))
        self.assertEqual(copy.came_to(), {1: 3, 2: 4, 3: 5, 4: 6})
        # The first folder's own mark isn't copied.
        house.mark("a", 3)
        other.mark("y", 4)
        stepped(Copy(house, "a", other, "y"))
        self.assertEqual(other.now().mark(3), 4)

    def test_refusals(self):
        house = House([*ROW, ("make", 0, "l", 6, ("link", "l"))])
        cases = [
            (NoPath, "A", "A", {"thing": "A"}), (NoPath, None, "/", {"thing": None}), (NoPath, "a", True, {"thing": True}),
            (Fault, "e", "A", {"word": "kind", "path": "e", "gone": ((0, "e", 5),)}),
            (Fault, "q", "A", {"word": "absent", "path": "q", "gone": ()}),
            (Fault, "a", "e", {"word": "kind", "path": "e", "gone": ((0, "e", 5),)}),
            (Fault, "a", "a/q", {"word": "absent", "path": "a/q", "gone": ((0, "a", 1),)}),
            (Fault, "l", "q", {"word": "loops", "path": "l", "gone": ((0, "l", 6),) * 5}),
            (Fault, "e/x", "q", {"word": "kind", "path": "e/x", "gone": ((0, "e", 5),)}),
        ]
        for error, path, to, fields in cases:
            with self.subTest(path=path, to=to), self.assertRaises(error) as caught:
                Copy(house, path, house.twin(), to)
            self.assertEqual(vars(caught.exception), fields)
        self.assertEqual(len(house), len(ROW) + 1)


class TestWhileItTurns(unittest.TestCase):
    def test_things_that_move_and_are_written(self):
        house, other = House(ROW), House()
        copy = stepped(Copy(house, "/", other, "/"), 3)
        # b becomes loose, c moves to the root, d is written: each as it is when its turn comes.
        house.strike("a/b")
        house.move("a/c", "q")
        house.change(("write", 4, 0, "F"))
        stepped(copy)
        self.assertEqual(copy.left_out(), [2])
        self.assertEqual(copy.pieces()[3:], [("thing", 2, 12), ("thing", 3, 12), ("names", 3, 12), ("thing", 4, 12),
                                             ("thing", 5, 12)])
        self.assertEqual(other.listed("a"), ["c"])
        self.assertEqual((other.read("a/c/d"), other.listed("/")), ("Four", ["a", "e"]))
        # The names of 0 and of 1 are others at the last piece's moment.
        self.assertIsNone(copy.as_at())

    def test_what_comes_behind_the_names_is_not_met(self):
        house, other = House(ROW), House()
        copy = stepped(Copy(house, "/", other, "/"), 1)
        house.make("zz", FILE)
        house.make("a/zz", FILE)
        stepped(copy)
        self.assertEqual((other.listed("/"), other.listed("a")), (["a", "e"], ["b", "c", "zz"]))
        self.assertIsNone(copy.as_at())

    def test_as_at_of_what_turned_and_came_to_the_same(self):
        house, other = House(ROW), House()
        copy = stepped(Copy(house, "/", other, "/"), 4)
        for number in (8, 0):
            house.change(("mark", 2, number))
        house.strike("e")
        house.change(("name", 0, "e", 5))
        stepped(copy)
        # The last piece's moment, at which all was as it was read.
        self.assertEqual(copy.as_at(), len(ROW) + 4)
        self.assertEqual(beneath_of(other.now()), beneath_of(house.now()))

    def test_as_at_of_each_kind_of_turn(self):
        link = ("make", 0, "l", 6, ("link", "a"))
        for change in (("mark", 2, 1), ("write", 2, 0, "T"), ("strike", 1, "b"), ("move", 0, "a", 0, "aa"),
                       ("make", 1, "n", 7, FILE), ("mark", 1, 5), ("cut", 2, 0), ("exchange", 1, "b", 3, "d")):
            house = House([*ROW, link])
            copy = stepped(Copy(house, "/", House(), "/"), 8)
            self.assertEqual(copy.pieces()[-1], ("thing", 5, 10))
            house.change(change)
            stepped(copy)
            self.assertIsNone(copy.as_at(), change)
        for change in (("mark", 0, 1), ("write", 6, 0, "")):
            house = House([*ROW, ("make", 0, "l", 6, FILE)])
            copy = stepped(Copy(house, "/", House(), "/"), 8)
            house.change(change)
            stepped(copy)
            self.assertEqual(copy.as_at(), 11)
        # It moved to and fro, by another name of the same folder's names: it has a place as it had.
        house = House(ROW)
        copy = stepped(Copy(house, "a", House(), "/"), 3)
        house.move("a", "aa")
        stepped(copy)
        self.assertEqual(copy.as_at(), 10)
        # Loose as it was read, and loose then.
        house = House(ROW)
        copy = stepped(Copy(house, "a", House(), "/"), 1)
        house.strike("a/b")
        copy.step()
        house.change(("name", 1, "b", 2))
        stepped(copy)
        self.assertEqual(copy.left_out(), [2])
        self.assertIsNone(copy.as_at())

    def test_a_folder_and_a_link_come_to_twice(self):
        house = House([
            ("make", 0, "a", 1, FOLDER), ("make", 0, "b", 2, FOLDER), ("make", 1, "f", 3, FOLDER), ("make", 3, "x", 4, FILE),
            ("make", 1, "l", 5, ("link", "x")),
        ])
        other = House()
        copy = stepped(Copy(house, "/", other, "/"), 7)
        self.assertEqual(copy.pieces()[-1][:2], ("thing", 5))
        house.move("a/f", "b/g")
        house.move("a/l", "b/l")
        stepped(copy)
        self.assertEqual(copy.left_out(), [3, 5])
        self.assertEqual((other.listed("a"), other.listed("b"), other.listed("a/f")), (["f", "l"], [], ["x"]))
        self.assertEqual(copy.pieces()[7:], [("thing", 2, 7), ("names", 2, 7), ("thing", 3, 7), ("thing", 5, 7)])
        self.assertIsNone(copy.as_at())

    def test_the_first_folder_come_to_beneath_itself(self):
        house = House([("make", 0, "a", 1, FOLDER), ("make", 1, "b", 2, FOLDER)])
        other = House()
        copy = stepped(Copy(house, "a", other, "/"), 2)
        house.move("a/b", "b")
        house.move("a", "b/a")
        stepped(copy)
        self.assertEqual((copy.left_out(), copy.pieces()[-1]), ([1], ("thing", 1, 4)))

    def test_a_folders_names_are_read_wherever_it_is(self):
        house, other = House(ROW), House()
        copy = stepped(Copy(house, "a", other, "/"), 3)
        self.assertEqual(copy.pieces()[-1][:2], ("thing", 3))
        house.change(("all", (("strike", 3, "d"), ("strike", 1, "c"))))
        copy.step()
        self.assertEqual(copy.pieces()[-1], ("names", 3, 10))
        self.assertTrue(copy.is_done())
        # The first one's, too, loose by then.
        house, other = House([("make", 0, "a", 1, FOLDER)]), House()
        copy = Copy(house, "a", other, "/")
        house.strike("a")
        self.assertIs(copy.step(), False)
        self.assertEqual(copy.pieces(), [("names", 1, 2)])

    def test_names_of_a_folder_left_out_are_not_read(self):
        house, other = House(ROW), House()
        copy = stepped(Copy(house, "a", other, "/"), 1)
        house.move("a/c/d", "d")
        house.strike("a/c")
        stepped(copy)
        self.assertEqual(copy.pieces(), [("names", 1, 9), ("thing", 2, 11), ("thing", 3, 11)])
        self.assertEqual((copy.left_out(), other.listed("/")), ([3], ["b"]))


class TestComing(unittest.TestCase):
    def copied(self, row, stand, path="/", to="/", many=None):
        house, other = House(row), House(stand)
        copy = stepped(Copy(house, path, other, to), many)
        return copy, other, other.row()[len(stand):]

    def test_to_what_stands_there(self):
        row = [("make", 0, "f", 1, FILE), ("write", 1, 0, "text"), ("mark", 1, 3)]
        for text, mark, due in (
            ("text", 3, []), ("text", 2, [("mark", 5, 3)]), ("te", 3, [("write", 5, 0, "text")]),
            ("textual", 3, [("cut", 5, 4)]), ("TEXT", 3, [("write", 5, 0, "text")]), ("", 3, [("write", 5, 0, "text")]),
        ):
            stand = [("make", 0, "a", 1, FILE), ("make", 0, "b", 2, FILE), ("make", 0, "c", 3, FILE),
                     ("make", 0, "d", 4, FILE), ("make", 0, "f", 5, FILE), ("write", 5, 0, text), ("mark", 5, mark)]
            copy, other, entries = self.copied(row, stand)
            self.assertEqual((entries, copy.came_to()), (due, {0: 0, 1: 5}))
        stand = [("make", 0, "f", 1, FILE), ("write", 1, 0, "an elder one")]
        copy, other, entries = self.copied(row, stand)
        self.assertEqual((other.read("f"), other.now().mark(1), copy.came_to(), len(entries)), ("text", 3, {0: 0, 1: 1}, 1))
        self.assertEqual(other.listed("/"), ["f"])

    def test_links(self):
        row = [("make", 0, "l", 1, ("link", "a/b")), ("mark", 1, 3)]
        copy, other, entries = self.copied(row, [("make", 0, "l", 1, ("link", "a/b"))])
        self.assertEqual((entries, copy.came_to()), ([("mark", 1, 3)], {0: 0, 1: 1}))
        copy, other, entries = self.copied(row, [("make", 0, "l", 1, ("link", "a/c"))])
        self.assertEqual(entries, [("all", (("strike", 0, "l"), ("make", 0, "l", 2, ("link", "a/b")), ("mark", 2, 3)))])
        self.assertEqual((copy.came_to(), other.now().loose()), ({0: 0, 1: 2}, [1]))

    def test_what_is_of_another_kind_is_struck_first(self):
        kinds = {"folder": FOLDER, "file": FILE, "link": ("link", "x")}
        for kind, what in kinds.items():
            for other_kind, standing in kinds.items():
                row, stand = [("make", 0, "n", 1, what)], [("make", 0, "n", 1, standing)]
                copy, other, entries = self.copied(row, stand)
                if kind == other_kind:
                    self.assertEqual((entries, copy.came_to()), ([], {0: 0, 1: 1}))
                else:
                    self.assertEqual(entries, [("all", (("strike", 0, "n"), ("make", 0, "n", 2, what)))])
                    self.assertEqual((copy.came_to(), copy.left_out()), ({0: 0, 1: 2}, []))

    def test_a_folder_with_names_in_the_way(self):
        stand = [("make", 0, "n", 1, FOLDER), ("make", 1, "x", 2, FILE)]
        for what in (FILE, ("link", "x")):
            copy, other, entries = self.copied([("make", 0, "n", 1, what)], stand)
            self.assertEqual((entries, copy.left_out(), copy.came_to()), ([], [1], {0: 0}))
            self.assertEqual(copy.as_at(), 1)
        copy, other, entries = self.copied([("make", 0, "n", 1, FOLDER), ("make", 1, "y", 2, FILE)], stand)
        self.assertEqual((other.listed("n"), copy.came_to(), copy.left_out()), (["x", "y"], {0: 0, 1: 1, 2: 3}, []))

    def test_other_names_stay(self):
        stand = [("make", 0, "q", 1, FOLDER), ("make", 1, "x", 2, FILE), ("make", 0, "r", 3, FILE)]
        copy, other, entries = self.copied(ROW, stand)
        self.assertEqual((other.listed("/"), other.listed("q")), (["a", "e", "q", "r"], ["x"]))

    def test_what_another_one_came_to(self):
        # One file has both names there; two files have them here: the second comes to a new one.
        stand = [("make", 0, "a", 1, FILE), ("name", 0, "b", 1)]
        row = [("make", 0, "a", 1, FILE), ("make", 0, "b", 2, FILE), ("write", 2, 0, "b")]
        copy, other, entries = self.copied(row, stand)
        self.assertEqual(entries, [("all", (("strike", 0, "b"), ("make", 0, "b", 2, FILE), ("write", 2, 0, "b")))])
        self.assertEqual(copy.came_to(), {0: 0, 1: 1, 2: 2})

    def test_further_names_of_a_file(self):
        row = [("make", 0, "a", 1, FILE), ("write", 1, 0, "x"), ("name", 0, "b", 1), ("name", 0, "c", 1)]
        stand = [("make", 0, "b", 1, FILE), ("make", 0, "c", 2, FOLDER)]
        copy, other, entries = self.copied(row, stand)
        self.assertEqual(entries, [
            ("all", (("make", 0, "a", 3, FILE), ("write", 3, 0, "x"))), ("all", (("strike", 0, "b"), ("name", 0, "b", 3))),
            ("all", (("strike", 0, "c"), ("name", 0, "c", 3))),
        ])
        self.assertEqual(copy.came_to(), {0: 0, 1: 3})
        # So already.
        again, other, entries = self.copied(row, other.row())
        self.assertEqual((entries, again.came_to()), ([], {0: 0, 1: 3}))
        # A folder with names at the further name.
        copy, other, entries = self.copied(row, [("make", 0, "b", 1, FOLDER), ("make", 1, "x", 2, FOLDER)])
        self.assertEqual((copy.left_out(), other.now().places(3)), ([1], [(0, "a"), (0, "c")]))

    def test_a_further_name_gets_the_text_and_mark(self):
        house = House([("make", 0, "a", 1, FILE), ("write", 1, 0, "x"), ("name", 0, "b", 1)])
        other = House()
        copy = stepped(Copy(house, "/", other, "/"), 2)
        house.change(("write", 1, 0, "newer"))
        house.mark("a", 4)
        other.change(("strike", 0, "a"))
        stepped(copy)
        self.assertEqual(other.row()[2:], [("all", (("name", 0, "b", 1), ("write", 1, 0, "newer"), ("mark", 1, 4)))])
        self.assertIsNone(copy.as_at())

    def test_its_own_that_moved_over_there(self):
        house = House([("make", 0, "a", 1, FILE), ("name", 0, "b", 1), ("mark", 1, 5)])
        other = House()
        copy = stepped(Copy(house, "/", other, "/"), 2)
        other.move("a", "b")
        stepped(copy)
        # The name b is its own there already: nothing is to be done.
        self.assertEqual((len(other), copy.came_to()), (2, {0: 0, 1: 1}))

    def test_a_folder_loose_by_then(self):
        house, other = House(ROW), House()
        copy = stepped(Copy(house, "/", other, "/"), 3)
        other.strike("a")
        stepped(copy)
        self.assertEqual((copy.left_out(), other.listed("/")), ([2, 3], ["e"]))
        self.assertEqual([piece[:2] for piece in copy.pieces()[3:]], [("thing", 2), ("thing", 3), ("thing", 5)])
        self.assertEqual(copy.as_at(), len(ROW))
        # The told one, too.
        house, other = House(ROW), House([("make", 0, "p", 1, FOLDER)])
        copy = Copy(house, "/", other, "p")
        other.strike("p")
        stepped(copy)
        self.assertEqual((copy.left_out(), len(other)), ([1, 5], 2))

    def test_falls(self):
        for done in (False, True):
            for one, two, since in ((True, False, 10), (False, True, None), (True, True, 10)):
                house, other = House(ROW), House()
                copy = stepped(Copy(house, "/", other, "/"), None if done else 2)
                if two:
                    other.cut_back(0)
                    since = since or len(other) + 1
                    other.make("q", FILE)
                if one:
                    house.cut_back(3)
                pieces = copy.pieces()
                for _ in range(2):
                    with self.assertRaises(Fallen) as caught:
                        copy.step()
                    self.assertEqual(caught.exception.since, since)
                self.assertEqual((copy.pieces(), copy.is_done()), (pieces, done))


class NaiveCopy:
    """A second telling of points 29 and 30, by the words, over two houses."""

    def __init__(self, house, first, other, told):
        self.house, self.other = house, other
        self.came = [(first, told)]
        self.todo = [("names", first)]
        self.pieces, self.left = [], []

    def step(self):
        tree = self.house.tree()
        todo = self.todo.pop(0)
        self.pieces.append((todo[0], todo[1], self.house.moment()))
        if todo[0] == "names":
            self.todo[:0] = [("thing", thing, name, todo[1]) for name, thing in sorted(tree.names(todo[1]).items())]
        elif self.come(tree, *todo[1:]):
            if tree.kind(todo[1]) == "folder":
                self.todo.insert(0, ("names", todo[1]))
        else:
            self.left.append(todo[1])

    def come(self, tree, thing, name, folder):
        kind = tree.kind(thing)
        elders = dict(self.came)
        if thing in tree.loose() or kind != "file" and thing in elders:
            return False
        there, into = self.other.tree(), elders[folder]
        if into in there.loose():
            return False
        stands = there.names(into).get(name)
        goal = elders.get(thing)
        if goal is None and stands is not None and stands not in elders.values() and there.kind(stands) == kind:
            if kind != "link" or there.target(stands) == tree.target(thing):
                goal = stands
        if stands not in (None, goal) and there.kind(stands) == "folder" and there.names(stands):
            return False
        done = []
        if stands not in (None, goal):
            done.append(("strike", into, name))
        if goal is None:
            goal = there.last() + 1
            what = ("link", tree.target(thing)) if kind == "link" else (kind,)
            done.append(("make", into, name, goal, what))
        elif stands != goal:
            done.append(("name", into, name, goal))
        self.came.append((thing, goal))
        self.finish(tree, thing, goal, done)
        return True

    def finish(self, tree, thing, goal, done):
        """The text and the mark, where another one stands by then."""
        trial = self.other.tree()
        for change in done:
            trial.do(change)
        if tree.kind(thing) == "file" and trial.text(goal) != tree.text(thing):
            self.text = (goal, tree.text(thing))
            done.append(("write", goal, 0, tree.text(thing)))
            if len(trial.text(goal)) > len(tree.text(thing)):
                done.append(("cut", goal, len(tree.text(thing))))
        if trial.mark(goal) != tree.mark(thing):
            done.append(("mark", goal, tree.mark(thing)))
        if done:
            self.other.do_all(done)


class TestByChance(unittest.TestCase):
    def grown(self, chance, most=20):
        house = House()
        for _ in range(most):
            entry = lively_entry(chance, house.now())
            if entry:
                house.change(entry)
        return house

    def test_as_the_words_tell(self):
        for seed in range(300):
            chance = random.Random(seed)
            house, other = self.grown(chance), self.grown(chance, 8)
            naive = NaiveCopy(house, 0, other.twin(), 0)
            copy = Copy(house, "/", other, "/")
            while not copy.is_done():
                before = len(other)
                copy.step()
                naive.step()
                self.assertEqual((copy.pieces(), copy.left_out(), copy.came_to()), (naive.pieces, naive.left, dict(naive.came)))
                self.assertEqual(other.now(), naive.other.now())
                self.assertEqual(copy.is_done(), not naive.todo)
                # At most one entry, one where something was to be done.
                self.assertEqual(len(other) - before, len(naive.other) - before)
                self.assertIn(len(other) - before, (0, 1))
                for at in (house, other):
                    entry = lively_entry(chance, at.now()) if chance.random() < 0.4 else None
                    if entry:
                        at.change(entry)
                        if at is other:
                            naive.other.change(entry)
            self.as_at_holds(house, copy)

    def as_at_holds(self, house, copy):
        latest = copy.pieces()[-1][2]

        def read(moment, word, thing):
            tree = house.tree(moment)
            if word == "names":
                return tree.names(thing)
            kind = tree.kind(thing)
            worth = tree.text(thing) if kind == "file" else tree.target(thing) if kind == "link" else None
            return worth, tree.mark(thing), thing in tree.loose()

        alike = all(read(latest, word, thing) == read(moment, word, thing) for word, thing, moment in copy.pieces())
        self.assertEqual(copy.as_at(), latest if alike else None)

    def test_where_nothing_turns_it_is_the_same_beneath(self):
        for seed in range(200):
            chance = random.Random(seed)
            house, other = self.grown(chance, 25), House()
            copy = stepped(Copy(house, "/", other, "/"))
            self.assertEqual((beneath_of(other.now()), copy.left_out()), (beneath_of(house.now()), []))
            self.assertEqual(copy.as_at(), house.moment())

    def test_gone_on_with_it_comes_to_the_same(self):
        for seed in range(60):
            chance = random.Random(seed)
            house, other = self.grown(chance), self.grown(chance, 6)
            whole = other.twin()
            first = stepped(Copy(house, "/", whole, "/"))
            for many in range(len(first.pieces()) + 1):
                stopped = other.twin()
                stepped(Copy(house, "/", stopped, "/"), many)
                moment = stopped.moment()
                again = stepped(Copy(house, "/", stopped, "/"))
                self.assertEqual(beneath_of(stopped.now()), beneath_of(whole.now()))
                self.assertEqual((again.pieces(), again.left_out()), (first.pieces(), first.left_out()))
                # It writes just what was left.
                self.assertEqual(stopped.row()[moment:], whole.row()[moment:])


if __name__ == "__main__":
    unittest.main()
