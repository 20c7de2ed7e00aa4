"""Point 28: archives that are brought in row by row, and (h) of point 3."""

import random
import unittest

from onehistory.archives import packed, unpacked
from onehistory.disk import Disk
from onehistory.errors import Fallen, Fault, NoArchive, NoPath, NoThing, Outside, There, TooMany
from onehistory.house import House
from onehistory.rows import tree_at
from onehistory.unpacking import Unpacking
from onehistory.views import view_of
from tests.naive import some_change
from tests.test_archives import WHOLE, archive
from tests.test_roads import some_row
from tests.test_tree import FILE, FOLDER
from tests.things import NO_NUMBERS, ODD


def brought(unpacking, many=None):
    """So many steps are done, all where it is left out."""
    while unpacking.left() and many != 0:
        assert unpacking.step() is True
        many = None if many is None else many - 1
    return unpacking


class TestRowByRow(unittest.TestCase):
    def test_each_steps_entry(self):
        text = archive(
            "folder 5 .", "folder 0 b", "folder 6 a", "folder 7 c", "file 0 0 c/f\n", "file 0 2 a/f\nhi", "file 8 0 g\n",
            "file 9 1 h\nx", "link 0 l ..", "link 1 k g", "again a/g h", "folder 2 b",
        )
        house = House([("make", 0, "a", 1, FOLDER)])
        unpacking = Unpacking(house, "/", text)
        self.assertEqual((unpacking.left(), unpacking.moments(), house.moment()), (12, [], 1))
        entries = [
            ("mark", 0, 5), ("make", 0, "b", 2, FOLDER), ("mark", 1, 6),
            ("all", (("make", 0, "c", 3, FOLDER), ("mark", 3, 7))), ("make", 3, "f", 4, FILE),
            ("all", (("make", 1, "f", 5, FILE), ("write", 5, 0, "hi"))),
            ("all", (("make", 0, "g", 6, FILE), ("mark", 6, 8))),
            ("all", (("make", 0, "h", 7, FILE), ("write", 7, 0, "x"), ("mark", 7, 9))),
            ("make", 0, "l", 8, ("link", "..")), ("all", (("make", 0, "k", 9, ("link", "g")), ("mark", 9, 1))),
            ("name", 1, "g", 7), ("mark", 2, 2),
        ]
        for number, entry in enumerate(entries, start=1):
            self.assertIs(unpacking.step(), True)
            self.assertEqual((house.row()[number:], unpacking.left()), ([entry], 12 - number))
            self.assertEqual(unpacking.moments(), list(range(2, number + 2)))
        row = house.row()
        for _ in range(3):
            self.assertIs(unpacking.step(), False)
            self.assertEqual((house.row(), unpacking.left(), len(unpacking.moments())), (row, 0, 12))

    def test_into_an_empty_place(self):
        for path, at, held, place in (("q", 0, False, 1), (".", 1, False, 1), ("/", 1, True, 1), ("..", 1, False, 0)):
            house = House([("make", 0, "p", 1, FOLDER), ("make", 0, "q", 2, ("link", "p"))])
            unpacking = brought(Unpacking(house=house, path=path, text=WHOLE, at=at, held=held))
            self.assertEqual(unpacking.moments(), list(range(3, 11)))
            if place == 1:
                self.assertEqual(packed(house.now(), 1), WHOLE)
            else:
                self.assertEqual(house.listed("/"), ["a", "e", "f", "l", "p", "q"])
        # Not held where that is left out.
        house = House([("make", 0, "p", 1, FOLDER)])
        brought(Unpacking(house, "/", archive("folder 5 ."), at=1))
        self.assertEqual(house.now().mark(0), 5)
        self.assertRaises(TypeError, Unpacking, House(), "/", WHOLE, 0)

    def test_the_same_as_at_once(self):
        chance = random.Random(29)
        for _ in range(60):
            try:
                text = packed(tree_at(some_row(chance)))
            except TooMany:
                continue
            one = House(some_row(chance))
            other = one.twin()
            refused = []
            for bring in (lambda: unpacked(one, "/", text), lambda: brought(Unpacking(other, "/", text))):
                try:
                    bring()
                    refused.append(None)
                except (Outside, There) as why:
                    refused.append((type(why), why.number))
            self.assertEqual(*refused)
            self.assertEqual(view_of(one.now(), 0), view_of(other.now(), 0))

    def test_told_lists_are_the_askers_own(self):
        unpacking = brought(Unpacking(House(), "/", WHOLE), 2)
        unpacking.moments().clear()
        self.assertEqual((unpacking.moments(), unpacking.left()), ([1, 2], 6))

    def test_more_changes_than_one_all_takes(self):
        names = [one + other for one in "abcdefghijklmno" for other in "abcdefghijklmno"]
        text = archive("folder 0 .", *(f"file 1 1 {name}\nx" for name in names[:80]))
        house = House()
        self.assertEqual(brought(Unpacking(house, "/", text)).moments(), list(range(1, 82)))


class TestLookedAtAhead(unittest.TestCase):
    def refused(self, error, row, path, text, **more):
        house = House(row)
        with self.assertRaises(error) as caught:
            Unpacking(house, path, text, **more)
        self.assertEqual(house.row(), list(row))
        return caught.exception

    def test_refusals_in_their_order(self):
        row = [("make", 0, "f", 1, FILE), ("make", 0, "l", 2, ("link", "f")), ("make", 0, "a", 3, FOLDER)]
        for path in ODD:
            self.assertIs(self.refused(NoPath, row, path, None, at=99).thing, path)
        for at in NO_NUMBERS + (1, 2, 9):
            self.assertIs(self.refused(NoThing, row, "x", None, at=at).thing, at)
        for path, word in (("x", "absent"), ("f", "kind"), ("l", "kind"), ("f/x", "kind")):
            fault = self.refused(Fault, row, path, None)
            self.assertEqual((fault.word, fault.path), (word, path))
        for text in ODD:
            self.assertIsNone(self.refused(NoArchive, row, "/", text).number)
        for text, number in (("", 0), ("archive 1\n", 1), (WHOLE + "x", 9), (archive("folder 0 .", "folder 0 ..", "x"), 3)):
            self.assertEqual(self.refused(NoArchive, row, "/", text).number, number)
        for text, number in (
            (archive("folder 0 .", "folder 0 .."), 2), (archive("folder 0 .", "folder 0 a", "link 0 f/b /"), 3),
            (archive("folder 0 .", "folder 0 l/b"), 2), (archive("folder 0 .", "again z f"), 2),
            (archive("folder 0 .", "again f x", "link 0 f /"), 2),
        ):
            self.assertEqual(self.refused(Outside, row, "/", text).number, number)
        for text, number in (
            (archive("folder 0 .", "folder 0 f"), 2), (archive("folder 0 .", "link 0 a /"), 2),
            (archive("folder 0 .", "file 0 0 b\n", "again b b"), 3), (archive("folder 0 .", "link 0 f /", "folder 0 .."), 2),
            (archive("folder 0 .", "folder 0 a/b", "file 0 0 a/b\n"), 3),
        ):
            self.assertEqual(self.refused(There, row, "/", text).number, number)

    def test_links_are_not_gone_along(self):
        row = [("make", 0, "a", 1, FOLDER), ("make", 0, "l", 2, ("link", "a"))]
        self.assertEqual(self.refused(Outside, row, "/", archive("folder 0 .", "link 0 k a", "folder 0 k/b")).number, 3)
        self.assertEqual(self.refused(Outside, row, ".", archive("folder 0 .", "folder 0 l/b")).number, 2)


class TestMeanwhile(unittest.TestCase):
    """Others change the house amid."""

    def test_the_place_moved(self):
        house = House([("make", 0, "p", 1, FOLDER), ("make", 0, "q", 2, FOLDER)])
        unpacking = brought(Unpacking(house, "p", WHOLE), 3)
        house.move("p", "q/r")
        house.make("p", FOLDER)
        brought(unpacking)
        self.assertEqual((packed(house.now(), 1), house.listed("p")), (WHOLE, []))

    def test_folders_that_rows_came_to_moved(self):
        house = House()
        unpacking = brought(Unpacking(house, "/", WHOLE), 2)
        house.move("a", "x")
        house.make("a", FOLDER)
        brought(unpacking)
        self.assertEqual((house.listed("x"), house.listed("a"), house.listed("x/b")), (["b", "f"], [], ["f"]))

    def test_folders_of_the_house_as_they_were_found(self):
        row = [("make", 0, "a", 1, FOLDER), ("make", 1, "b", 2, FOLDER)]
        text = archive("folder 0 .", "file 0 0 a/b/f\n", "file 0 0 a/g\n", "folder 0 a/b", "file 0 0 a/b/h\n")
        house = House(row)
        unpacking = Unpacking(house, "/", text)
        house.move("a/b", "c")
        house.move("a", "d")
        house.make("a", FOLDER)
        house.make("a/b", FOLDER)
        brought(unpacking, 3)
        self.assertEqual((house.listed("c"), house.listed("d"), house.listed("a/b")), (["f"], ["g"], []))
        # A `folder` row goes by what stands at its name then: nothing, in the folder that was found.
        brought(unpacking)
        self.assertEqual((house.listed("d"), house.listed("d/b"), house.listed("c")), (["b", "g"], ["h"], ["f"]))

    def test_of_several_rows_of_one_path_the_last(self):
        text = archive("folder 0 .", "folder 1 a", "file 0 0 a/f\n", "folder 2 a", "file 0 0 a/g\n", "folder 3 a", "again a/h a/f")
        house = House()
        unpacking = brought(Unpacking(house, "/", text), 3)
        house.move("a", "x")
        brought(unpacking, 2)
        self.assertEqual((house.listed("x"), house.listed("a")), (["f"], ["g"]))
        house.move("a", "y")
        house.move("x", "a")
        brought(unpacking)
        self.assertEqual((house.listed("a"), house.listed("y"), house.now().mark(1)), (["f", "h"], ["g"], 3))

    def test_a_folder_that_came_goes_together(self):
        house = House()
        unpacking = brought(Unpacking(house, "/", archive("folder 0 .", "folder 7 a", "folder 8 a/b", "file 0 0 a/b/f\n")), 1)
        house.make("a", FOLDER)
        house.make("a/z", FILE)
        brought(unpacking, 1)
        self.assertEqual((house.row()[-1], house.listed("a")), (("mark", 1, 7), ["z"]))
        house.make("c", FOLDER)
        house.make("c/y", FILE)
        house.move("c", "a/b")
        brought(unpacking)
        self.assertEqual((house.listed("a/b"), house.now().mark(3)), (["f", "y"], 8))

    def test_a_folder_that_was_there_is_gone(self):
        house = House([("make", 0, "a", 1, FOLDER)])
        unpacking = Unpacking(house, "/", archive("folder 0 .", "folder 7 a"))
        house.strike("a")
        brought(unpacking)
        self.assertEqual((house.row()[-1], house.now().mark(1)),
                         (("all", (("make", 0, "a", 2, FOLDER), ("mark", 2, 7))), 0))

    def test_names_that_came(self):
        for row, what in (
            ("file 0 0 n\n", FILE), ("file 0 0 n\n", FOLDER), ("file 0 0 n\n", ("link", "/")), ("link 0 n a", FILE),
            ("link 0 n a", FOLDER), ("link 0 n a", ("link", "a")), ("again n f", FILE), ("again n f", FOLDER),
            ("again n f", ("link", "/")), ("folder 0 n", FILE), ("folder 0 n", ("link", "/")),
        ):
            house = House()
            unpacking = Unpacking(house, "/", archive("folder 0 .", "file 0 0 f\n", row, "link 0 z /"))
            house.make("n", what)
            brought(unpacking, 2)
            entries = house.row()
            for _ in range(2):
                with self.assertRaises(There) as caught:
                    unpacking.step()
                self.assertEqual((caught.exception.number, house.row(), unpacking.left()), (3, entries, 2))
            # It stands ahead of that row: where the name goes, it goes on.
            house.strike("n")
            brought(unpacking)
            self.assertEqual(house.listed("."), ["f", "n", "z"])

    def test_its_own_file_came_to_the_name(self):
        house = House()
        unpacking = brought(Unpacking(house, "/", archive("folder 0 .", "file 0 0 f\n", "again n f")), 2)
        house.name("f", "n")
        with self.assertRaises(There) as caught:
            unpacking.step()
        self.assertEqual(caught.exception.number, 3)

    def test_again_of_a_file_that_was_struck(self):
        house = House()
        unpacking = brought(Unpacking(house, "/", archive("folder 0 .", "file 0 1 f\nx", "again n f")), 2)
        house.strike("f")
        house.make("f", FILE)
        brought(unpacking)
        self.assertEqual((house.read("n"), house.read("f")), ("x", ""))

    def test_a_place_that_became_loose(self):
        for many in range(3):
            house = House([("make", 0, "p", 1, FOLDER)])
            unpacking = Unpacking(house, "p", archive("folder 1 .", "file 0 0 f\n", "link 0 l /"))
            brought(unpacking, many)
            for name in house.listed("p"):
                house.strike("p/" + name)
            house.strike("p")
            entries = house.row()
            for _ in range(2):
                with self.assertRaises(Outside) as caught:
                    unpacking.step()
                self.assertEqual((caught.exception.number, house.row(), unpacking.left()), (many + 1, entries, 3 - many))

    def test_a_place_that_was_loose(self):
        house = House([("make", 0, "p", 1, FOLDER), ("strike", 0, "p")])
        unpacking = Unpacking(house, ".", archive("folder 1 ."), at=1)
        with self.assertRaises(Outside) as caught:
            unpacking.step()
        self.assertEqual(caught.exception.number, 1)

    def test_folders_that_became_loose(self):
        text = archive("folder 0 .", "folder 0 a", "link 0 l /", "file 0 0 a/f\n", "folder 0 a/b", "folder 0 a", "folder 0 a/c")
        house = House()
        unpacking = brought(Unpacking(house, "/", text), 3)
        house.strike("a")
        with self.assertRaises(Outside) as caught:
            unpacking.step()
        self.assertEqual((caught.exception.number, unpacking.left()), (4, 4))
        # One that was found, and has no row ahead.
        house = House([("make", 0, "a", 1, FOLDER)])
        unpacking = brought(Unpacking(house, "/", archive("folder 0 .", "link 0 a/l /")), 1)
        house.strike("a")
        house.make("a", FOLDER)
        with self.assertRaises(Outside) as caught:
            unpacking.step()
        self.assertEqual((caught.exception.number, house.listed("a")), (2, []))

    def test_falls(self):
        for many in range(9):
            house = House()
            unpacking = brought(Unpacking(house, "/", WHOLE), many)
            moments = unpacking.moments()
            house.cut_back(house.moment())
            for more in range(2):
                with self.assertRaises(Fallen) as caught:
                    unpacking.step()
                self.assertEqual(caught.exception.since, house.moment())
                self.assertEqual((unpacking.left(), unpacking.moments()), (8 - many, moments))
                house.mark("/", more)
        house = House([("make", 0, "n", 1, FILE), ("cut back", 0)])
        house.cut_back(0)
        self.assertEqual(brought(Unpacking(house, "/", WHOLE)).left(), 0)

    def test_on_a_disk(self):
        disk = Disk(House())
        unpacking = brought(Unpacking(disk.house(), "/", WHOLE), 5)
        disk.keep_names()
        brought(unpacking)
        disk.fall((1, ()))
        self.assertRaises(Fallen, unpacking.step)
        self.assertEqual(disk.house().read("a/b/f"), "hello")
        self.assertEqual(disk.house().listed("."), ["a", "e"])


class ByTheWords:
    """What the next row of an archive should do, as point 28's words are; the archive has no texts with line feeds."""

    def __init__(self, tree, place, text):
        self.rows = rows_of(text)
        self.came = {way: what[0] for way, what in view_of(tree, place).items() if what[1] == "folder"}
        self.files = {}
        self.done = 0

    def due(self, tree):
        """The refusal that is due, or the changes."""
        kind, mark, path, worth = self.rows[self.done]
        number, new = self.done + 1, tree.last() + 1
        way = () if path == "." else tuple(path.split("/"))
        folder = self.came[way[:-1]]
        if folder != 0 and tree.places(folder) == []:
            return Outside, number
        stands = folder if way == () else tree.names(folder).get(way[-1])
        if stands is not None:
            if kind != "folder" or tree.kind(stands) != "folder":
                return There, number
            self.came[way] = stands
            return [("mark", stands, mark)]
        if kind == "again":
            return [("name", folder, way[-1], self.files[worth])]
        (self.came if kind == "folder" else self.files)[way if kind == "folder" else path] = new
        changes = [("make", folder, way[-1], new, ("link", worth) if kind == "link" else (kind,))]
        changes += [("write", new, 0, worth)] * (kind == "file" and worth != "")
        return changes + [("mark", new, mark)] * (mark != 0)


def rows_of(text):
    """The rows of an archive whose texts have no line feed: tuples (kind, mark, path, worth)."""
    lines = iter(text.split("\n")[1:-1])
    rows = []
    for line in lines:
        kind, *words = line.split(" ")
        if kind == "folder":
            rows.append((kind, int(words[0]), words[1], None))
        elif kind == "link":
            rows.append((kind, int(words[0]), words[1], words[2]))
        elif kind == "again":
            rows.append((kind, None, words[0], words[1]))
        else:
            rows.append((kind, int(words[0]), words[2], next(lines)))
    return rows


def some_text(chance):
    """An archive, perhaps with some rows twice, that isn't always such as can be brought."""
    tree = tree_at(some_row(chance))
    for thing in tree.things():
        if tree.kind(thing) == "file":
            tree.do(("cut", thing, 0))
            tree.do(("write", thing, 0, chance.choice(("", "x", "a row"))))
    rows = rows_of(packed(tree))
    if chance.random() < 0.3:
        rows += [chance.choice(rows[1:] or [("folder", 0, "a", None)]), ("folder", 3, "a", None), ("link", 0, "a/z", "/")]
    told = [{"folder": f"folder {mark} {path}", "link": f"link {mark} {path} {worth}", "again": f"again {path} {worth}",
             "file": f"file {mark} {len(worth or '')} {path}\n{worth}"}[kind] for kind, mark, path, worth in rows]
    return archive(*told)


class TestByChance(unittest.TestCase):
    def test_each_step_by_the_words(self):
        chance = random.Random(31)
        done = refused = 0
        for _ in range(400):
            house = House(some_row(chance))
            at = chance.choice((0, house.make("place", FOLDER)))
            try:
                text = some_text(chance)
                unpacking = Unpacking(house, ".", text, at=at)
            except (TooMany, Outside, There):
                continue
            words = ByTheWords(house.now(), at, text)
            for _ in range(80):
                for _ in range(chance.choice((0, 0, 1, 4))):
                    change = some_change(chance, house.now().last())
                    if house.now().can(change):
                        house.change(change)
                if unpacking.left() == 0:
                    break
                due, ahead = words.due(house.now()), house.row()
                if isinstance(due, tuple):
                    with self.assertRaises(due[0]) as caught:
                        unpacking.step()
                    self.assertEqual((caught.exception.number, house.row()), (due[1], ahead))
                    refused += 1
                else:
                    self.assertIs(unpacking.step(), True)
                    self.assertEqual(house.row(), ahead + [due[0] if len(due) == 1 else ("all", tuple(due))])
                    words.done += 1
                    self.assertEqual((unpacking.left(), unpacking.moments()[-1]),
                                     (len(words.rows) - words.done, house.moment()))
            done += unpacking.left() == 0
        self.assertGreater(min(done, refused), 50)


if __name__ == "__main__":
    unittest.main()
