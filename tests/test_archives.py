"""Points 26, 27 and 28 but for unpackings, and (h) of point 3."""

import random
import re
import unittest

from onehistory.archives import packed, unpacked, whole_rows
from onehistory.errors import Fault, NoArchive, NoChange, NoPath, NoThing, Outside, There, TooMany
from onehistory.house import House
from onehistory.rows import tree_at
from onehistory.views import view_of
from tests.test_roads import some_row
from tests.test_tree import FILE, FOLDER, grown
from tests.things import NO_NUMBERS, ODD

WHOLE = """archive 8
folder 0 .
folder 0 a
folder 0 a/b
file 0 5 a/b/f
hello
again a/f a/b/f
folder 0 e
again f a/b/f
link 0 l /a
"""
ROWS = ("folder 0 .\n", "folder 0 a\n", "folder 0 a/b\n", "file 0 5 a/b/f\nhello\n", "again a/f a/b/f\n", "folder 0 e\n",
        "again f a/b/f\n", "link 0 l /a\n")


def archive(*rows):
    """An archive of rows without their last line feed."""
    return f"archive {len(rows)}\n" + "".join(row + "\n" for row in rows)


class TestPacked(unittest.TestCase):
    def test_of_the_root(self):
        self.assertEqual(packed(grown()), WHOLE)
        self.assertEqual(packed(tree=grown(), folder=0, only=None), WHOLE)
        self.assertEqual(packed(tree_at(())), "archive 1\nfolder 0 .\n")
        self.assertRaises(TypeError, packed, grown(), 0, None)

    def test_of_other_folders(self):
        self.assertEqual(packed(grown(), 1), archive("folder 0 .", "folder 0 b", "file 0 5 b/f\nhello", "again f b/f"))
        self.assertEqual(packed(grown(), 5), archive("folder 0 ."))
        # A loose one, too.
        self.assertEqual(packed(grown(), 6), archive("folder 0 ."))

    def test_marks_and_texts(self):
        tree = grown()
        for change in (("mark", 0, 999), ("mark", 3, 7), ("mark", 4, 10), ("cut", 3, 0), ("mark", 5, 1),
                       ("make", 0, "g", 9, FILE), ("write", 9, 0, "\n\nfolder 0 x\n"), ("make", 0, "h", 10, FILE),
                       ("write", 10, 0, "~ " * 100)):
            tree.do(change)
        self.assertEqual(packed(tree), archive(
            "folder 999 .", "folder 0 a", "folder 0 a/b", "file 7 0 a/b/f\n", "again a/f a/b/f", "folder 1 e",
            "again f a/b/f", "file 0 13 g\n\n\nfolder 0 x\n", "file 0 200 h\n" + "~ " * 100, "link 10 l /a",
        ))

    def test_name_by_name_as_they_rise(self):
        rows = [("make", 0, name, number, FOLDER) for number, name in enumerate(("b", "ab", "a", "aa"), start=1)]
        tree = tree_at(rows + [("make", 3, "z", 5, FILE), ("make", 4, "y", 6, FILE), ("make", 2, "x", 7, FILE)])
        self.assertEqual(packed(tree), archive(
            "folder 0 .", "folder 0 a", "file 0 0 a/z\n", "folder 0 aa", "file 0 0 aa/y\n", "folder 0 ab",
            "file 0 0 ab/x\n", "folder 0 b",
        ))

    def test_picked(self):
        for only, rows in (
            ([], (0,)), (("a",), (0, 1, 2, 3, 4)), (["e"], (0, 5)), (["l", "e"], (0, 5, 7)),
            (["a/b"], (0, 1, 2, 3)), (["a/b/f", "e", "e", "a/b"], (0, 1, 2, 3, 5)), (["a", "e", "f", "l"], range(8)),
        ):
            due = archive(*(ROWS[number][:-1] for number in rows))
            self.assertEqual(packed(grown(), only=only), due)
            self.assertEqual(packed(grown(), only=tuple(reversed(only))), due)
        # A file's first row that is picked has its text.
        self.assertEqual(packed(grown(), only=["f", "a/f"]), archive(
            "folder 0 .", "folder 0 a", "file 0 5 a/f\nhello", "again f a/f",
        ))
        self.assertEqual(packed(grown(), only=["f"]), archive("folder 0 .", "file 0 5 f\nhello"))
        self.assertEqual(packed(grown(), 1, only=["b/f"]), archive("folder 0 .", "folder 0 b", "file 0 5 b/f\nhello"))

    def test_picked_refusals(self):
        tree = grown()
        for only in tuple(odd for odd in ODD if not isinstance(odd, (list, tuple)) and odd is not None) + ("a", "", {"a"}):
            with self.assertRaises(NoPath) as caught:
                packed(tree, only=only)
            self.assertIs(caught.exception.thing, only)
        for path in ODD + ("", "A", "/a", "/", ".", "..", "a/..", "../a", "a/b/..", "/..", "a/" * 8 + "a", "a//b", ["a"]):
            for only in ([path], ["a", path], (path, "x"), [path, None]):
                with self.assertRaises(NoPath) as caught:
                    packed(tree, only=only)
                self.assertIs(caught.exception.thing, path)
        for path, word in (("x", "absent"), ("a/x", "absent"), ("a/x/y", "absent"), ("e/f", "absent"), ("f/x", "kind"),
                           ("l/b", "kind"), ("a/b/f/x/y", "kind")):
            # Each from the left.
            for only in ([path], ["a", path], (path, None), (path, "y", "/")):
                with self.assertRaises(Fault) as caught:
                    packed(tree, only=only)
                self.assertEqual((caught.exception.word, caught.exception.path, caught.exception.gone), (word, path, ()))
        with self.assertRaises(Fault) as caught:
            packed(tree, 1, only=["b", "e"])
        self.assertEqual(caught.exception.path, "e")

    def test_no_folders(self):
        for folder in NO_NUMBERS + (3, 4, 7, 8, 9, 99):
            for only in (None, [], "odd", ["x"]):
                with self.assertRaises(NoThing) as caught:
                    packed(grown(), folder, only=only)
                self.assertIs(caught.exception.thing, folder)

    def test_too_many_steps(self):
        row = [("make", number, "a", number + 1, FOLDER) for number in range(8)] + [("make", 0, "b", 9, FILE)]
        self.assertIn("folder 0 a/a/a/a/a/a/a/a\n", packed(tree_at(row)))
        for more in ([("make", 8, "c", 10, FILE)], [("make", 8, "c", 10, FOLDER), ("make", 10, "d", 11, FILE)]):
            with self.assertRaises(TooMany) as caught:
                packed(tree_at(row + more))
            self.assertEqual(caught.exception.many, 9)
            self.assertEqual(packed(tree_at(row + more), only=["b"]), archive("folder 0 .", "file 0 0 b\n"))
            self.assertEqual(packed(tree_at(row + more), 2).count("folder"), 6 + len(more))

    def test_too_many_rows(self):
        names = [one + other for one in "abcdefghijklmno" for other in "abcdefghijklmno"]
        row = [("make", 0, "a", 1, FOLDER), ("make", 0, "f", 2, FILE)]
        row += [("name", 1, name, 2) for name in names[:197]]
        self.assertEqual(packed(tree_at(row)).split("\n")[0], "archive 200")
        row += [("make", 0, "g", 3, FILE)]
        for more in ([], [("mark", 0, 1)]):
            with self.assertRaises(TooMany) as caught:
                packed(tree_at(row + more))
            self.assertEqual(caught.exception.many, 201)
        self.assertEqual(packed(tree_at(row), only=["a", "f"]).split("\n")[0], "archive 200")
        self.assertEqual(packed(tree_at(row), 1).split("\n")[0], "archive 198")


class TestUnpacked(unittest.TestCase):
    def test_into_an_empty_place(self):
        house = House()
        self.assertEqual(unpacked(house, "/", WHOLE), 1)
        self.assertEqual(packed(house.now()), WHOLE)
        self.assertEqual(len(house.now().places(house.now().names(0)["f"])), 3)
        self.assertEqual((house.moment(), len(house.row())), (1, 1))
        house = House([("make", 0, "p", 1, FOLDER), ("make", 0, "q", 2, ("link", "p"))])
        self.assertEqual(unpacked(house=house, path="q", text=WHOLE, at=0, held=False), 3)
        self.assertEqual((packed(house.now(), 1), house.listed(".")), (WHOLE, ["p", "q"]))
        self.assertRaises(TypeError, unpacked, house, "q", WHOLE, 0)
        for path, at, held, place in ((".", 1, False, 1), ("/", 1, True, 1), ("..", 1, False, 0)):
            house = House([("make", 0, "p", 1, FOLDER)])
            unpacked(house, path, archive("folder 5 .", "folder 6 n"), at=at, held=held)
            self.assertEqual((house.now().mark(place), house.now().parent(2)), (5, (place, "n")))
        # Not held where that is left out.
        house = House([("make", 0, "p", 1, FOLDER)])
        unpacked(house, "/", archive("folder 5 ."), at=1)
        self.assertEqual(house.now().mark(0), 5)

    def test_things_in_the_order_of_rows(self):
        house = House()
        unpacked(house, ".", archive(
            "folder 3 .", "file 4 2 z\nzz", "folder 0 b", "link 5 b/l ../z", "again y z", "folder 6 a", "file 0 0 a/f\n",
        ))
        tree = house.now()
        self.assertEqual((tree.things(), tree.last()), ([0, 1, 2, 3, 4, 5], 5))
        self.assertEqual((tree.names(0), tree.names(2), tree.names(4)),
                         ({"a": 4, "b": 2, "y": 1, "z": 1}, {"l": 3}, {"f": 5}))
        self.assertEqual([tree.mark(thing) for thing in tree.things()], [3, 4, 0, 5, 6, 0])
        self.assertEqual((tree.text(1), tree.text(5), tree.target(3)), ("zz", "", "../z"))

    def test_no_number_is_made_twice(self):
        house = House([("make", 0, "n", 1, FILE), ("cut back", 0)])
        unpacked(house, ".", archive("folder 0 .", "folder 0 a", "file 0 1 a/f\nx", "again g a/f"))
        self.assertEqual((house.now().names(0), house.now().names(2)), ({"a": 2, "g": 3}, {"f": 3}))

    def test_folders_go_together(self):
        house = House([("make", 0, "a", 1, FOLDER), ("mark", 1, 9), ("make", 1, "b", 2, FOLDER), ("make", 1, "z", 3, FILE)])
        unpacked(house, "/", WHOLE)
        tree = house.now()
        self.assertEqual((tree.names(0)["a"], tree.names(1)["b"], tree.names(1)["z"], tree.mark(1)), (1, 2, 3, 0))
        self.assertEqual(house.read("a/b/f"), "hello")
        # With nothing beneath them, too.
        house = House([("make", 0, "a", 1, FOLDER), ("make", 1, "b", 2, FOLDER)])
        unpacked(house, "/", archive("folder 1 .", "folder 2 a", "folder 0 c", "folder 3 a/b"))
        self.assertEqual([house.now().mark(thing) for thing in house.now().things()], [1, 2, 3, 0])
        # By rows ahead, too: the last one's mark.
        house = House()
        unpacked(house, "/", archive("folder 0 .", "folder 1 a", "file 0 0 a/f\n", "folder 2 a", "file 0 0 a/g\n", "folder 3 a"))
        self.assertEqual((house.listed("a"), house.now().mark(1), house.now().last()), (["f", "g"], 3, 3))
        # In folders of the house that have no row.
        house = House([("make", 0, "a", 1, FOLDER), ("make", 1, "b", 2, FOLDER), ("mark", 1, 4), ("mark", 2, 5)])
        unpacked(house, "/", archive("folder 0 .", "file 0 1 a/b/f\nx", "folder 0 a/b/c", "link 0 a/b/c/l ."))
        self.assertEqual((house.read("a/b/f"), house.now().mark(1), house.now().mark(2)), ("x", 4, 5))

    def test_a_row_behind_those_beneath_it(self):
        house = House([("make", 0, "a", 1, FOLDER)])
        unpacked(house, "/", archive("folder 0 .", "file 0 1 a/f\nx", "folder 7 a", "again a/g a/f"))
        self.assertEqual((house.listed("a"), house.now().mark(1)), (["f", "g"], 7))

    def refused(self, error, number, text, row=(), path="/", **more):
        house = House(row)
        with self.assertRaises(error) as caught:
            unpacked(house, path, text, **more)
        self.assertEqual((caught.exception.number, house.row()), (number, list(row)))

    def test_outside(self):
        for path in ("/a", "../a", "a/..", "a/../b", "..", "/..", "../..", "x/y", "f/y", "l/y", "k/y", "e/y/z", "x/..", "l/b/y"):
            for row in (f"folder 0 {path}", f"file 0 0 {path}\n", f"link 0 {path} a", f"again {path} f"):
                text = archive("folder 0 .", "folder 0 a", "file 0 0 f\n", "link 0 l a", row, "folder 0 x")
                self.refused(Outside, 5, text, [("make", 0, "e", 1, FOLDER), ("make", 0, "k", 2, ("link", "e"))])
        self.refused(Outside, 2, archive("folder 0 .", "again a f", "file 0 0 f\n"))
        self.refused(Outside, 3, archive("folder 0 .", "folder 0 a", "again b f"))
        for other in ("x", "g", "a", ".", "/f", "a/f", "a/../f", "..", "l", "h"):
            text = archive("folder 0 .", "folder 0 a", "file 0 0 f\n", "again g f", "link 0 l f", f"again z {other}", "file 0 0 h\n")
            self.refused(Outside, 6, text)
        # Beneath files of the house, and of rows, there is nothing.
        for path in ("k/x/y", "k/x", "f/x/y", "l/x/y"):
            text = archive("folder 0 .", "file 0 0 f\n", f"folder 0 {path}")
            self.refused(Outside, 3, text, [("make", 0, "k", 1, FILE), ("make", 0, "l", 2, ("link", "/"))])
        # What stands in the house is no row ahead.
        self.refused(Outside, 2, archive("folder 0 .", "again z f"), [("make", 0, "f", 1, FILE)])

    def test_there(self):
        row = [("make", 0, "a", 1, FOLDER), ("make", 0, "f", 2, FILE), ("make", 0, "l", 3, ("link", "a")),
               ("make", 1, "b", 4, FOLDER)]
        for kind in ("file 0 0 {}\n", "link 0 {} a", "again {} o", "folder 0 {}"):
            for path in ("f", "l", "a", "a/b", "n", "n/m", "k", "o", "p", "n/p"):
                text = archive("folder 0 .", "folder 0 n", "folder 0 n/m", "link 0 k a", "file 0 0 o\n", "again p o",
                               "again n/p o", kind.format(path), "folder 0 ..")
                if kind.startswith("folder") and path in ("a", "a/b", "n", "n/m"):
                    self.refused(Outside, 9, text, row)
                else:
                    self.refused(There, 8, text, row)

    def test_row_by_row(self):
        row = [("make", 0, "f", 1, FILE)]
        self.refused(There, 2, archive("folder 0 .", "link 0 f a", "folder 0 .."), row)
        self.refused(Outside, 2, archive("folder 0 .", "folder 0 ..", "link 0 f a"), row)
        # Of one row both.
        self.refused(Outside, 2, archive("folder 0 .", "again f x"), row)
        # All that is read goes ahead.
        self.refused(NoArchive, 3, archive("folder 0 .", "link 0 f a", "odd"), row)
        self.refused(NoArchive, 3, archive("folder 0 .", "folder 0 ..", "folder 0 ."), row)

    def test_refusals_of_the_place(self):
        house = House([("make", 0, "f", 1, FILE), ("make", 0, "l", 2, ("link", "f"))])
        for path in ODD:
            with self.assertRaises(NoPath) as caught:
                unpacked(house, path, None, at=99)
            self.assertIs(caught.exception.thing, path)
        for at in NO_NUMBERS + (1, 2, 9):
            with self.assertRaises(NoThing) as caught:
                unpacked(house, "x", None, at=at)
            self.assertIs(caught.exception.thing, at)
        for path, word, gone in (("x", "absent", ()), ("f", "kind", ((0, "f", 1),)), ("f/x", "kind", ((0, "f", 1),)),
                                 ("l", "kind", ((0, "l", 2), (0, "f", 1)))):
            with self.assertRaises(Fault) as caught:
                unpacked(house, path, None)
            self.assertEqual((caught.exception.word, caught.exception.path, caught.exception.gone), (word, path, gone))
        self.assertEqual(house.moment(), 2)

    def test_a_loose_place(self):
        house = House([("make", 0, "a", 1, FOLDER), ("strike", 0, "a")])
        with self.assertRaises(NoChange) as caught:
            unpacked(house, ".", archive("folder 0 .", "folder 0 b"), at=1)
        self.assertEqual((caught.exception.word, house.moment()), ("loose", 2))
        # Where no name is to come, it is done.
        self.assertEqual(unpacked(house, ".", archive("folder 7 ."), at=1), 3)
        self.assertEqual(house.now().mark(1), 7)

    def test_too_many_changes(self):
        names = [one + other for one in "abcdefghijklmno" for other in "abcdefghijklmno"]
        # The place's mark, and three of each file.
        rows = [f"file 1 1 {name}\nx" for name in names[:66]]
        house = House()
        self.assertEqual(unpacked(house, "/", archive("folder 0 .", *rows, "folder 0 z")), 1)
        self.assertEqual((len(house.now()), len(house.row()[0][1])), (68, 200))
        for row in ("folder 1 z", "link 1 z /", "file 1 0 z\n", "file 0 1 z\nz"):
            for at, path in ((0, "/"), (1, ".")):
                house = House([("make", 0, "q", 1, FOLDER), ("strike", 0, "q")])
                with self.assertRaises(TooMany) as caught:
                    unpacked(house, path, archive("folder 0 .", *rows, row), at=at)
                self.assertEqual((caught.exception.many, house.moment()), (201, 2))
        house = House()
        self.assertEqual(unpacked(house, "/", archive("folder 9 .", *(f"folder 0 {name}" for name in names[:199]))), 1)

    def test_nothing_else_changes(self):
        house = House([("make", 0, "p", 1, FOLDER), ("make", 0, "q", 2, FOLDER), ("make", 2, "r", 3, FILE),
                       ("make", 1, "out", 4, ("link", "/q")), ("make", 1, "a", 5, FOLDER), ("make", 5, "z", 6, FILE)])
        ahead = view_of(house.now(), 0)
        unpacked(house, "p", WHOLE)
        behind = view_of(house.now(), 0)
        self.assertEqual({way: behind[way] for way in ahead}, ahead)
        brought = {way[1:] for way in behind if way not in ahead}
        self.assertEqual(brought, {("a", "b"), ("a", "b", "f"), ("a", "f"), ("e",), ("f",), ("l",)})


class TestRead(unittest.TestCase):
    """How archives are read, through all that reads them."""

    def number(self, text):
        with self.assertRaises(NoArchive) as caught:
            unpacked(House(), "/", text)
        return caught.exception.number

    def test_no_text(self):
        for text in ODD + (["archive 1\n", "folder 0 .\n"],):
            for ask in (lambda: unpacked(House(), "/", text), lambda: whole_rows(text)):
                with self.assertRaises(NoArchive) as caught:
                    ask()
                self.assertIsNone(caught.exception.number)

    def test_the_first_row(self):
        for first in ("", "archive", "archive ", "archive 1", "archive 0\n", "archive 201\n", "archive 01\n", "archive  1\n",
                      "archive 1 \n", " archive 1\n", "Archive 1\n", "archive one\n", "archive -1\n", "archive +1\n",
                      "archive 1.0\n", "archive 1000\n", "archive 0001\n", "archives 1\n", "archive 1 1\n", "\narchive 1\n",
                      "archive\n1\n", "folder 0 .\n", "archive 1\t\n", "archive 1_0\n", "archive 1", "\n"):
            for rest in ("", "folder 0 .\n"):
                if first + rest == "archive 1folder 0 .\n" or first.endswith("\n") or rest == "":
                    self.assertEqual(self.number(first + rest), 0, first)
                    with self.assertRaises(NoArchive) as caught:
                        whole_rows(first + rest)
                    self.assertEqual(caught.exception.number, 0)

    def test_the_row_of_the_folder(self):
        for row in ("folder 0 a", "folder 0 /", "file 0 0 .\n", "link 0 . a", "again . a", "folder 0 ./", "folder 0", "folder .",
                    "folder 1000 .", "folder 00 .", "folder 01 .", "folder -1 .", "folder  0 .", "folder 0 . ", "", "Folder 0 .",
                    "folder 0 ..", "folder 0 . a", "folder\t0 .", "folder 0x .", "folder 1_0 ."):
            self.assertEqual(self.number(archive(row)), 1, row)
            self.assertEqual(self.number(archive(row, "odd")), 1, row)
            self.assertEqual(whole_rows(archive(row)), (0, None))
        self.assertEqual(self.number("archive 1\n"), 1)
        self.assertEqual(self.number("archive 1\nfolder 0 ."), 1)
        self.assertEqual(self.number("archive 1\nfolder 999 .\n\n"), 2)

    def test_rows_that_are_none(self):
        for row in (
            "folder 0 .", "folder 0 /", "link 0 . a", "link 0 / a", "file 0 0 .\n", "file 0 0 /\n", "again . f", "again / f",
            "folder 1000 a", "folder 01 a", "folder a", "folder 0 a b", "folder 0  a", "folder 0 a ", " folder 0 a", "folder 0 A",
            "folder 0 a//b", "folder 0 " + "a/" * 8 + "a", "folder 0 toolongname", "folders 0 a", "", "folder", "folder 0 ",
            "link 0 l", "link 0 l a b", "link 0 l A", "link 1000 l a", "link 0 l ", "link l 0 a", "link 0 l a/" * 2,
            "file 0 a\n", "file 0 201 a\n" + "x" * 201, "file 0 1 a\n", "file 0 1 a\nxx", "file 0 00 a\n", "file 1000 0 a\n",
            "file 0 0 a", "file 0 0 a\nx", "file 0 -1 a\n", "file 0 1 a\n\t", "file 0 2 a\nx", "file 0 0 a b\n", "file 0 0 A\n",
            "file 0 0  a\n", "again b", "again b f g", "again b F", "again 0 b f", "again b  f", "mark 0 a", "archive 1",
        ):
            text = archive("folder 0 .", "file 0 0 f\n", row)
            self.assertEqual(self.number(text), 3, row)
            self.assertEqual(self.number(text.replace("archive 3", "archive 5") + "folder 0 z\nfolder 0 y\n"), 3, row)
            self.assertEqual(whole_rows(text), (2, archive("folder 0 .", "file 0 0 f\n")))

    def test_rows_that_are_some(self):
        for row in ("folder 999 a", "link 10 l .", "link 0 l /", "link 0 l ..", "file 0 0 a\n", "file 9 3 a\n\n\n\n",
                    "file 0 200 a\n" + "x\n" * 100, "again b f", "folder 0 toolongn", "file 0 9 a\nfolder 0 ", "file 0 1 a\n~"):
            house = House()
            self.assertEqual(unpacked(house, "/", archive("folder 0 .", "file 0 0 f\n", row)), 1)
        house = House()
        unpacked(house, "/", archive("folder 0 .", "file 0 10 a\nfolder 0 b", "file 0 3 c\n\n \n"))
        self.assertEqual((house.read("a"), house.read("c"), house.listed(".")), ("folder 0 b", "\n \n", ["a", "c"]))

    def test_more_and_less_than_is_told(self):
        for many in range(1, 9):
            if many < 8:
                text = WHOLE.replace("archive 8", f"archive {many}")
                self.assertEqual(self.number(text), many + 1)
                self.assertEqual(self.number(f"archive 8\n{''.join(ROWS[:many])}"), many + 1)
            self.assertEqual(self.number(f"archive {many}\n{''.join(ROWS[:many])}x"), many + 1)
            self.assertEqual(self.number(f"archive {many}\n{''.join(ROWS[:many])}\n"), many + 1)
        self.assertEqual(self.number(WHOLE + "\n"), 9)
        rows = ["folder 0 ."] + ["folder 0 a"] * 199
        self.assertEqual(self.number(archive(*rows) + "folder 0 a\n"), 201)
        house = House()
        self.assertEqual(unpacked(house, "/", archive(*rows)), 1)
        self.assertEqual((len(house.now()), len(house.row()[0][1])), (2, 200))


class TestWholeRows(unittest.TestCase):
    def test_of_every_beginning(self):
        ends = [len("archive 8\n") + sum(len(row) for row in ROWS[:many]) for many in range(9)]
        for size in range(len(WHOLE) + 1):
            beginning = WHOLE[:size]
            if size < ends[0]:
                with self.assertRaises(NoArchive) as caught:
                    whole_rows(text=beginning)
                self.assertEqual(caught.exception.number, 0)
                continue
            many = len([end for end in ends if end <= size]) - 1
            due = (many, archive(*(row[:-1] for row in ROWS[:many]))) if many else (0, None)
            told = whole_rows(beginning)
            self.assertEqual((told, type(told)), (due, tuple))
            if many:
                house = House()
                unpacked(house, "/", told[1])
                self.assertEqual(whole_rows(told[1]), told)

    def test_at_most_as_many_as_told(self):
        for many in range(1, 9):
            text = WHOLE.replace("archive 8", f"archive {many}")
            self.assertEqual(whole_rows(text), (many, archive(*(row[:-1] for row in ROWS[:many]))))
        self.assertEqual(whole_rows(WHOLE + "more"), (8, WHOLE))
        self.assertEqual(whole_rows(WHOLE.replace("archive 8", "archive 200")), (8, WHOLE))

    def test_what_cant_be_brought_is_a_row(self):
        text = archive("folder 0 .", "folder 0 ..", "again x y", "folder 0 /a", "link 0 a/b/c /")
        self.assertEqual(whole_rows(text), (5, text))

    def test_of_signs_beside(self):
        self.assertEqual(whole_rows("archive 2\nfolder 0 .\nfile 0 3 a\nx\ty\n"), (1, archive("folder 0 .")))
        self.assertEqual(whole_rows("archive 2\n\tfolder 0 .\n"), (0, None))


ROW_OF = {
    "folder": re.compile(r"folder (0|[1-9]\d{0,2}) (\S+)\n", re.ASCII),
    "link": re.compile(r"link (0|[1-9]\d{0,2}) (\S+) (\S+)\n", re.ASCII),
    "file": re.compile(r"file (0|[1-9]\d{0,2}) (0|[1-9]\d?|1\d\d|200) (\S+)\n", re.ASCII),
    "again": re.compile(r"again (\S+) (\S+)\n", re.ASCII),
}
PATH = re.compile(r"\.|/|/?(?:[a-z]{1,8}|\.\.)(?:/(?:[a-z]{1,8}|\.\.)){0,7}")


def amiss(text):
    """The number with which a text is refused, by patterns; None of an archive."""
    first = re.match(r"archive ([1-9]\d?|1\d\d|200)\n", text, re.ASCII)
    if not first:
        return 0
    rest, many = text[first.end():], int(first[1])
    for number in range(1, many + 1):
        kind = rest.split(" ")[0]
        row = ROW_OF[kind].match(rest) if kind in ROW_OF else None
        if not row:
            return number
        paths = row.groups()[{"folder": 1, "link": 1, "file": 2, "again": 0}[kind]:]
        if not all(PATH.fullmatch(path) for path in paths):
            return number
        if (kind == "folder" and paths[0] == ".") != (number == 1) or number > 1 and paths[0] in (".", "/"):
            return number
        rest = rest[row.end():]
        if kind == "file":
            size = int(row[2])
            if not re.fullmatch(r"[ -~\n]*", rest[:size]) or rest[size:size + 1] != "\n":
                return number
            rest = rest[size + 1:]
    return many + 1 if rest else None


class TestByChance(unittest.TestCase):
    def test_packed_and_brought_in_again(self):
        chance = random.Random(26)
        for _ in range(60):
            tree = tree_at(some_row(chance))
            folder = chance.choice([thing for thing in tree.things() if tree.kind(thing) == "folder"])
            try:
                text = packed(tree, folder)
            except TooMany:
                continue
            house = House(some_row(chance))
            thing = house.make("place", FOLDER)
            self.assertEqual(unpacked(house, "place", text), house.moment())
            self.assertEqual(packed(house.now(), thing), text)
            # One to one but for numbers.
            ahead, behind = view_of(tree, folder), view_of(house.now(), thing)
            self.assertEqual(list(ahead), list(behind))
            pairs = {(ahead[way][0], behind[way][0]) for way in ahead}
            self.assertEqual(len(pairs), len({one for one, _ in pairs}))
            self.assertEqual(len(pairs), len({other for _, other in pairs}))
            for way in ahead:
                self.assertEqual(ahead[way][1:4], behind[way][1:4])

    def test_picked_are_those_on_the_ways_and_beneath(self):
        chance = random.Random(27)
        for _ in range(60):
            tree = tree_at(some_row(chance))
            ways = [way for way in view_of(tree, 0) if way]
            if not ways or max(map(len, ways)) > 8:
                continue
            only = [chance.choice(ways) for _ in range(chance.randrange(3))]
            text = packed(tree, only=["/".join(way) for way in only])
            found = re.findall(r"^(?:folder \d+ |link \d+ |file \d+ \d+ |again )(\S+)(?: \S+)?$", text, re.MULTILINE)
            due = {way for way in ways for one in only if way[:len(one)] == one or one[:len(way)] == way}
            self.assertEqual(found, ["."] + ["/".join(way) for way in sorted(due)])

    def test_bent_texts(self):
        chance = random.Random(28)
        read = 0
        for _ in range(3000):
            text = chance.choice((WHOLE, archive("folder 10 .", "file 120 3 a\n\n\nx", "link 0 b ../a", "again c a")))
            for _ in range(chance.randrange(3)):
                place = chance.randrange(len(text))
                text = chance.choice((
                    text[:place] + text[place + 1:], text[:place] + chance.choice("\n 0129afk./~\t") + text[place:],
                    text[:place] + chance.choice("\n 0129afk./~") + text[place + 1:], text[:place],
                    text.replace("archive 8", "archive 3"),
                ))
            due = amiss(text)
            house = House()
            try:
                unpacked(house, "/", text)
                self.assertIsNone(due, text)
                read += 1
            except NoArchive as why:
                self.assertEqual(why.number, due, text)
            except (Outside, There):
                self.assertIsNone(due, text)
            if due != 0:
                many = whole_rows(text)[0]
                self.assertEqual(many, due - 1 if due is not None else int(text.split("\n")[0][8:]), text)
        self.assertGreater(read, 300)


if __name__ == "__main__":
    unittest.main()
