"""Point 25: books."""

import random
import unittest

from onehistory.books import Book
from onehistory.disk import Disk
from onehistory.errors import Fallen, Fault, Full, NoHandle, NoLine, NoPath, NoThing
from onehistory.house import House
from tests.test_tree import FILE, FOLDER
from tests.things import NO_NUMBERS, ODD


def disk_with(text):
    """A disk of a house with a file a/f 2 of such a text, that is sure."""
    return Disk(House((("make", 0, "a", 1, FOLDER), ("make", 1, "f", 2, FILE), ("write", 2, 0, text))))


class TestAsItIsMade(unittest.TestCase):
    def test_rows_of_its_text(self):
        for text, rows, size in (
            ("", [], None), ("\n", [""], None), ("one\n", ["one"], None), ("one\ntwo\n", ["one", "two"], None),
            ("\n\na\n\n", ["", "", "a", ""], None), ("one\ntw", ["one"], 4), ("torn", [], 0), ("\n ", [""], 1),
            ("x" * 199 + "\n", ["x" * 199], None), ("x" * 200, [], 0),
        ):
            disk = disk_with(text)
            book = Book(disk, "a/f")
            self.assertEqual((book.lines(), len(book)), (rows, len(rows)))
            self.assertEqual(disk.house().row()[3:], [] if size is None else [("cut", 2, size)])
            self.assertEqual(disk.house().opened(), {0: 2})
            # What is cut off isn't sure, and with it the file's text.
            self.assertEqual(book.kept(), len(rows) if size is None else 0)

    def test_what_counts_as_kept(self):
        disk = disk_with("one\n")
        house = disk.house()
        handle = house.grasp("a/f")
        house.write(handle, 4, "two\n")
        self.assertEqual((Book(disk, "a/f").kept(), len(Book(disk, "a/f"))), (0, 2))
        disk.keep(handle)
        self.assertEqual(Book(disk, "a/f").kept(), 2)
        house.mark("a/f", 1)
        house.make("a/g", FILE)
        self.assertEqual(Book(disk, "a/f").kept(), 2)
        house.do_all([("mark", 0, 1), ("write", 2, 8, "three\n")])
        self.assertEqual((Book(disk, "a/f").kept(), len(Book(disk, "a/f"))), (0, 3))
        disk.keep_names()
        self.assertEqual(Book(disk, "a/f").kept(), 3)
        house.write(house.grasp("a/g"), 0, "g\n")
        self.assertEqual((Book(disk, "a/f").kept(), Book(disk, "a/g").kept()), (3, 0))
        # Of a file whose name isn't sure, its text is.
        other = house.grasp("a/g")
        disk.keep(other)
        house.name("a/g", "h")
        self.assertEqual((Book(disk, "h").kept(), len(disk)), (1, 1))

    def test_by_all_ways(self):
        disk = disk_with("one\n")
        for path, at, held in (("f", 1, False), ("../a/f", 1, False), ("/f", 1, True)):
            self.assertEqual(Book(disk=disk, path=path, at=at, held=held).lines(), ["one"])
        # Not held where that is left out.
        self.assertEqual(Book(disk, "/a/f", at=1).lines(), ["one"])
        self.assertRaises(TypeError, Book, disk, "f", 1)

    def test_refusals(self):
        disk = disk_with("torn")
        for path in ODD + ("", "A"):
            with self.assertRaises(NoPath) as caught:
                Book(disk, path, at=99)
            self.assertIs(caught.exception.thing, path)
        for at in NO_NUMBERS + (2, 9):
            with self.assertRaises(NoThing) as caught:
                Book(disk, "x", at=at)
            self.assertIs(caught.exception.thing, at)
        for path, word in (("x", "absent"), ("a", "kind"), (".", "kind"), ("a/f/g", "kind")):
            with self.assertRaises(Fault) as caught:
                Book(disk, path)
            self.assertEqual((caught.exception.word, caught.exception.path), (word, path))
        self.assertEqual((len(disk), disk.house().opened()), (0, {}))


class TestPut(unittest.TestCase):
    def test_kept(self):
        disk = disk_with("one\n")
        book = Book(disk, "a/f")
        for number, line in enumerate(("two", "", " ~", "two"), start=1):
            self.assertEqual(book.put(line), number)
            self.assertEqual((book.kept(), len(book), len(disk)), (number + 1, number + 1, 0))
        self.assertEqual(book.lines(), ["one", "two", "", " ~", "two"])
        # In one change each.
        self.assertEqual(disk.house().row()[3:], [
            ("write", 2, 4, "two\n"), ("write", 2, 8, "\n"), ("write", 2, 9, " ~\n"), ("write", 2, 12, "two\n"),
        ])

    def test_not_kept(self):
        disk = disk_with("")
        book = Book(disk, "a/f")
        self.assertEqual([book.put(line=line, sure=False) for line in ("one", "two")], [0, 1])
        self.assertEqual((book.kept(), len(book), len(disk), book.lines()), (0, 2, 2, ["one", "two"]))
        self.assertIsNone(book.keep())
        self.assertEqual((book.kept(), len(disk)), (2, 0))
        self.assertEqual((book.put("three", sure=False), book.kept()), (2, 2))
        # One that is kept keeps all ahead of it.
        self.assertEqual((book.put("four", sure=True), book.kept(), len(disk)), (3, 4, 0))
        self.assertRaises(TypeError, book.put, "five", False)

    def test_no_rows(self):
        disk = disk_with("x" * 199 + "\n")
        book = Book(disk, "a/f")
        for line in ODD + ("\n", "one\n", "\none", "o\nne", "x" * 201, "tab\t", ["one"]):
            for sure in (True, False):
                # Ahead of Full, that is due of each.
                with self.assertRaises(NoLine) as caught:
                    book.put(line, sure=sure)
                self.assertIs(caught.exception.thing, line)
        self.assertEqual((len(disk), len(book)), (0, 1))

    def test_full(self):
        disk = disk_with("x" * 99 + "\n")
        book = Book(disk, "a/f")
        for size in (100, 101, 199, 200):
            with self.assertRaises(Full) as caught:
                book.put("y" * size, sure=size > 100)
            self.assertEqual(caught.exception.size, 101 + size)
        self.assertEqual((len(disk), len(book)), (0, 1))
        self.assertEqual(book.put("y" * 99), 1)
        self.assertEqual(len(disk.house().read("a/f")), 200)
        with self.assertRaises(Full) as caught:
            book.put("")
        self.assertEqual(caught.exception.size, 201)
        book = Book(disk_with(""), "a/f")
        with self.assertRaises(Full) as caught:
            book.put("y" * 200)
        self.assertEqual(caught.exception.size, 201)
        self.assertEqual((book.put("y" * 199), len(book), book.lines()), (0, 1, ["y" * 199]))

    def test_a_second_book_of_the_file(self):
        disk = disk_with("one\n")
        book, other = Book(disk, "a/f"), Book(disk, "a/f")
        self.assertEqual(book.put("two"), 1)
        self.assertEqual((other.lines(), len(other), other.kept()), (["one", "two"], 2, 1))
        self.assertEqual((other.put("three", sure=False), book.put("four")), (2, 3))
        self.assertEqual((book.lines(), book.kept(), other.kept()), (["one", "two", "three", "four"], 4, 1))
        other.keep()
        self.assertEqual(other.kept(), 4)

    def test_wherever_its_name_is(self):
        disk = disk_with("one\n")
        book = Book(disk, "a/f")
        disk.house().strike("a/f")
        self.assertEqual((book.put("two"), book.lines()), (1, ["one", "two"]))
        disk.house().close(0)
        for ask in (book.lines, book.keep, lambda: book.put("three"), lambda: len(book)):
            self.assertRaises(NoHandle, ask)

    def test_told_lists_are_the_askers_own(self):
        book = Book(disk_with("one\n"), "a/f")
        book.lines().append("two")
        self.assertEqual((book.lines(), len(book)), (["one"], 1))


class TestFalls(unittest.TestCase):
    def test_all_but_how_many_are_kept_is_refused(self):
        disk = disk_with("one\n")
        book = Book(disk, "a/f")
        book.put("two")
        book.put("three", sure=False)
        disk.fall((0, ((2, 0, 3),)))
        for _ in range(2):
            for ask in (book.lines, book.keep, lambda: book.put("four"), lambda: book.put("four", sure=False),
                        lambda: len(book), lambda: book.put(None)):
                with self.assertRaises(Fallen) as caught:
                    ask()
                self.assertEqual(caught.exception.since, disk.house().moment())
            self.assertEqual(book.kept(), 2)
            disk.house().mark("/", 1)
        self.assertEqual(disk.house().read("a/f"), "one\ntwo\nthr")
        anew = Book(disk, "a/f")
        self.assertEqual((anew.lines(), anew.kept(), disk.unsure()[-1][1]), (["one", "two"], 0, ("cut", 2, 8)))
        anew.keep()
        self.assertEqual((anew.kept(), anew.put("three"), anew.kept()), (2, 2, 3))

    def test_a_whole_row_that_wasnt_kept(self):
        disk = disk_with("")
        book = Book(disk, "a/f")
        book.put("one", sure=False)
        book.put("two", sure=False)
        disk.fall((0, ((2, 1, 0),)))
        self.assertEqual((book.kept(), Book(disk, "a/f").lines(), Book(disk, "a/f").kept()), (0, ["one"], 1))

    def test_a_beginning_of_those_put_behind_every_fall(self):
        chance = random.Random(25)
        for _ in range(200):
            disk = disk_with(chance.choice(("", "one\n", "one\ntorn")))
            book = Book(disk, "a/f")
            put = book.lines()
            for _ in range(chance.randrange(1, 9)):
                line = chance.choice(("", "x", "yy", "a longer one"))
                self.assertEqual(book.put(line, sure=chance.random() < 0.4), len(put))
                put.append(line)
                if chance.random() < 0.2:
                    book.keep()
                if chance.random() < 0.2:
                    disk.keep_names()
                if chance.random() < 0.3:
                    disk.house().mark("a/f", chance.randrange(9))
            self.assertEqual((book.lines(), len(book)), (put, len(put)))
            for choice in disk.choices(most=2000):
                other = disk.twin()
                other.fall(choice)
                anew = Book(other, "a/f")
                self.assertEqual(anew.lines(), put[:len(anew)])
                self.assertGreaterEqual(len(anew), book.kept())


if __name__ == "__main__":
    unittest.main()
