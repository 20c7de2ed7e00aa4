"""Points 23 and 24: recipes, their broken falls, and (g) of point 3."""

import itertools
import random
import unittest

from onehistory.disk import Disk
from onehistory.errors import Fallen, Fault, NoChange, NoHandle, NoPath, NoRecipe, NoThing
from onehistory.house import House
from onehistory.recipes import STEPS, Recipe, broken_fall
from tests.test_tree import FILE, FOLDER
from tests.things import NO_NUMBERS, ODD

# A folder a 1 with a file f 2, a link l 3 to a, a folder e 4 in a, a file g 5 of two names.
BEGUN = (
    ("make", 0, "a", 1, FOLDER), ("make", 1, "f", 2, FILE), ("write", 2, 0, "elder"), ("make", 0, "l", 3, ("link", "a")),
    ("make", 1, "e", 4, FOLDER), ("make", 0, "g", 5, FILE), ("name", 1, "h", 5),
)
NOW = len(BEGUN)
MAY_BE_LEFT_OUT = ("write", "keep", "names")
NO_WITHOUT = tuple(odd for odd in ODD if odd != []) + (
    "write", "", ("make",), ("move",), ["write", "move"], ("write", "write"), ["keep", "names", "keep"], ("Write",),
    (["write"],), ("write", None), ("write", 0), ("names", b"keep"), {"write"}, {"write": 1}, [("write",)], ("",),
)


def begun():
    return Disk(House(BEGUN))


def new_entries(disk):
    return disk.house().row()[NOW:]


def gone_on(recipe, many=9):
    return [recipe.step() for _ in range(many)]


class TestSteps(unittest.TestCase):
    def test_the_words(self):
        self.assertEqual((type(STEPS), STEPS), (tuple, ("make", "write", "keep", "move", "names")))

    def test_one_behind_the_other(self):
        disk = begun()
        house = disk.house()
        recipe = Recipe(disk, "a/f", "newer")
        self.assertEqual((recipe.left(), recipe.is_done(), new_entries(disk), house.opened()), (list(STEPS), False, [], {}))
        self.assertEqual(recipe.step(), "make")
        self.assertEqual((new_entries(disk), house.opened()), ([("make", 1, "beside", 6, FILE)], {0: 6}))
        self.assertEqual((recipe.left(), recipe.is_done()), (["write", "keep", "move", "names"], False))
        self.assertEqual(recipe.step(), "write")
        self.assertEqual(new_entries(disk)[1:], [("write", 6, 0, "newer")])
        self.assertEqual([number for number, _ in disk.unsure()], [NOW, NOW + 1])
        self.assertEqual(recipe.step(), "keep")
        self.assertEqual((len(new_entries(disk)), disk.unsure()), (2, [(NOW, ("make", 1, "beside", 6, FILE))]))
        self.assertEqual(house.read("a/f"), "elder")
        self.assertEqual(recipe.step(), "move")
        self.assertEqual((new_entries(disk)[2:], recipe.left()), ([("move", 1, "beside", 1, "f")], ["names"]))
        self.assertEqual((house.read("a/f"), len(disk), house.opened()), ("newer", 2, {0: 6}))
        self.assertEqual(recipe.step(), "names")
        self.assertEqual((len(disk), house.opened(), recipe.left(), recipe.is_done()), (0, {}, [], True))
        row = house.row()
        self.assertEqual(gone_on(recipe, 3), [None] * 3)
        self.assertEqual((house.row(), house.listed("a")), (row, ["e", "f", "h"]))

    def test_what_stands_beside_is_struck(self):
        for beside, entries in (
            ("beside", [("make", 1, "beside", 6, FILE)]),
            ("new", [("make", 1, "new", 6, FILE)]),
            ("f", [("strike", 1, "f"), ("make", 1, "f", 6, FILE)]),
            ("h", [("strike", 1, "h"), ("make", 1, "h", 6, FILE)]),
            ("e", [("strike", 1, "e"), ("make", 1, "e", 6, FILE)]),
        ):
            disk = begun()
            recipe = Recipe(disk=disk, path="a/x", text="newer", beside=beside)
            self.assertEqual(recipe.step(), "make")
            self.assertEqual((new_entries(disk), disk.house().opened()), (entries, {0: 6}))
            self.assertEqual(gone_on(recipe, 5), ["write", "keep", "move", "names", None])
            self.assertEqual(new_entries(disk)[len(entries):], [("write", 6, 0, "newer"), ("move", 1, beside, 1, "x")])
        disk = begun()
        recipe = Recipe(disk, "x", "newer", beside="l")
        gone_on(recipe)
        self.assertEqual(new_entries(disk)[:2], [("strike", 0, "l"), ("make", 0, "l", 6, FILE)])

    def test_what_came_beside_meanwhile_is_struck(self):
        disk = begun()
        recipe = Recipe(disk, "a/f", "newer")
        disk.house().make("a/beside", ("link", ".."))
        self.assertEqual(recipe.step(), "make")
        self.assertEqual(new_entries(disk)[1:], [("strike", 1, "beside"), ("make", 1, "beside", 7, FILE)])

    def test_over_what_stands_there(self):
        for path, text in (("a/f", "newer"), ("l/f", ""), ("l", "over a link"), ("x", "\n"), ("a/h", "x" * 200)):
            disk = begun()
            self.assertEqual(gone_on(Recipe(disk, path, text), 6), [*STEPS, None])
            # A link at the name itself goes, and isn't gone along.
            self.assertEqual((disk.house().read(path), disk.house().read("g")), (text, ""))
            self.assertEqual(new_entries(disk)[1], ("write", 6, 0, text))

    def test_from_other_folders(self):
        for path, at, held, folder in (("f", 1, False, 1), ("../x", 1, False, 0), ("/x", 1, True, 1), ("../x", 1, True, 1)):
            disk = begun()
            recipe = Recipe(disk, path, "newer", at=at, held=held, beside="b", without=())
            recipe.step()
            self.assertEqual(new_entries(disk), [("make", folder, "b", 6, FILE)])
        # Not held where that is left out.
        disk = begun()
        Recipe(disk, "/f", "newer", at=1).step()
        self.assertEqual(new_entries(disk), [("make", 0, "beside", 6, FILE)])
        self.assertRaises(TypeError, Recipe, begun(), "f", "newer", "b")

    def test_the_folder_is_that_of_its_making(self):
        disk = begun()
        house = disk.house()
        recipe = Recipe(disk, "l/f", "newer")
        recipe.step()
        house.move("a", "b")
        house.make("a", FOLDER)
        house.make("a/beside", FILE)
        self.assertEqual(gone_on(recipe, 4), ["write", "keep", "move", "names"])
        self.assertEqual((house.read("b/f"), house.listed("a")), ("newer", ["beside"]))

    def test_steps_left_out(self):
        entries = {"make": ("make", 1, "beside", 6, FILE), "write": ("write", 6, 0, "newer"),
                   "move": ("move", 1, "beside", 1, "f")}
        for many in range(4):
            for without in itertools.permutations(MAY_BE_LEFT_OUT, many):
                for told in (without, list(without)):
                    disk = begun()
                    recipe = Recipe(disk, "a/f", "newer", without=told)
                    due = [word for word in STEPS if word not in without]
                    self.assertEqual((recipe.left(), recipe.is_done()), (due, False))
                    self.assertEqual(gone_on(recipe, len(due) - 1), due[:-1])
                    self.assertEqual((disk.house().opened(), recipe.is_done()), ({0: 6}, False))
                    self.assertEqual(recipe.step(), due[-1])
                    self.assertEqual((disk.house().opened(), recipe.is_done(), recipe.step()), ({}, True, None))
                    self.assertEqual(new_entries(disk), [entries[word] for word in due if word in entries])
                    unsure = {entry[0] for _, entry in disk.unsure()}
                    self.assertEqual("write" in unsure, "write" in due and "keep" not in due)
                    self.assertEqual("move" in unsure, "names" not in due)

    def test_told_lists_are_the_askers_own(self):
        without = ["keep"]
        recipe = Recipe(begun(), "a/f", "newer", without=without)
        without.append("names")
        recipe.left().clear()
        self.assertEqual(recipe.left(), ["make", "write", "move", "names"])
        self.assertEqual(without, ["keep", "names"])


class TestRefusals(unittest.TestCase):
    def refused(self, error, disk, *arguments, **more):
        with self.assertRaises(error) as caught:
            Recipe(disk, *arguments, **more)
        self.assertEqual((new_entries(disk), disk.house().opened()), ([], {}))
        return caught.exception

    def test_in_their_order(self):
        disk = begun()
        odd = object()
        for path in ODD + ("", "A", "a//f"):
            self.assertIs(self.refused(NoPath, disk, path, odd, beside=odd, at=odd, without=odd).thing, path)
        for at in NO_NUMBERS + (2, 3, 9):
            for path in ("a/f", "..", "x/y"):
                self.assertIs(self.refused(NoThing, disk, path, odd, beside=odd, at=at, without=odd).thing, at)
        for path, word, gone in (
            (".", "form", ()), ("/", "form", ()), ("a/..", "form", ()), ("x/y", "absent", ()),
            ("g/y", "kind", ((0, "g", 5),)), ("a/f/y/z", "kind", ((0, "a", 1), (1, "f", 2))),
        ):
            fault = self.refused(Fault, disk, path, odd, beside=odd, without=odd)
            self.assertEqual((fault.word, fault.path, fault.gone), (word, path, gone))
        for text in ODD + ("x" * 201, "tab\t", ["a"]):
            self.assertEqual(self.refused(NoChange, disk, "a/f", text, beside=odd, without=odd).word, "form")
        for beside in ODD + ("", "A", "toolongname", "a/b", "..", ".", "/b", "f"):
            self.assertIs(self.refused(NoPath, disk, "a/f", "newer", beside=beside, without=odd).thing, beside)
        self.assertEqual(self.refused(NoPath, disk, "beside", "newer").thing, "beside")
        for without in NO_WITHOUT:
            self.assertIs(self.refused(NoRecipe, disk, "a/f", "newer", without=without).thing, without)

    def test_a_step_refused_and_done_again_later(self):
        disk = begun()
        house = disk.house()
        house.make("a/e/n", FILE)
        recipe = Recipe(disk, "a/f", "newer", beside="e")
        row = house.row()
        for _ in range(2):
            with self.assertRaises(NoChange) as caught:
                recipe.step()
            self.assertEqual((caught.exception.word, house.row(), recipe.left()), ("full", row, list(STEPS)))
        house.strike("a/e/n")
        self.assertEqual(gone_on(recipe, 3), ["make", "write", "keep"])
        house.move("a/e", "b")
        with self.assertRaises(NoChange) as caught:
            recipe.step()
        self.assertEqual((caught.exception.word, recipe.left()), ("absent", ["move", "names"]))
        house.move("b", "a/e")
        self.assertEqual(gone_on(recipe, 3), ["move", "names", None])
        self.assertEqual(house.read("a/f"), "newer")

    def test_over_a_folder(self):
        disk = begun()
        recipe = Recipe(disk, "a/e", "newer")
        gone_on(recipe, 3)
        for _ in range(2):
            with self.assertRaises(NoChange) as caught:
                recipe.step()
            self.assertEqual((caught.exception.word, recipe.left()), ("kind", ["move", "names"]))
        disk.house().strike("a/e")
        self.assertEqual(gone_on(recipe, 2), ["move", "names"])

    def test_in_a_loose_folder(self):
        disk = begun()
        recipe = Recipe(disk, "a/e/f", "newer")
        disk.house().strike("a/e")
        with self.assertRaises(NoChange) as caught:
            recipe.step()
        self.assertEqual((caught.exception.word, recipe.left(), disk.house().opened()), ("loose", list(STEPS), {}))

    def test_its_handle_closed_meanwhile(self):
        for many, word in ((1, "write"), (2, "keep")):
            disk = begun()
            recipe = Recipe(disk, "a/f", "newer")
            gone_on(recipe, many)
            disk.house().close(0)
            with self.assertRaises(NoHandle) as caught:
                recipe.step()
            self.assertEqual((caught.exception.thing, recipe.left()[0]), (0, word))

    def test_its_handle_closed_ahead_of_the_last(self):
        for without in ((), ("names",)):
            disk = begun()
            recipe = Recipe(disk, "a/f", "newer", without=without)
            many = len(recipe.left()) - 1
            gone_on(recipe, many)
            disk.house().close(0)
            row, unsure = disk.house().row(), disk.unsure()
            for _ in range(2):
                with self.assertRaises(NoHandle) as caught:
                    recipe.step()
                self.assertEqual(caught.exception.thing, 0)
            self.assertEqual((disk.house().row(), disk.unsure(), len(recipe.left())), (row, unsure, 1))
        # Ahead of others it isn't asked for.
        disk = begun()
        recipe = Recipe(disk, "a/f", "newer")
        gone_on(recipe, 3)
        disk.house().close(0)
        self.assertEqual(recipe.step(), "move")

    def test_falls(self):
        for many in range(7):
            disk = begun()
            recipe = Recipe(disk, "a/f", "newer")
            gone_on(recipe, many)
            left = recipe.left()
            disk.fall(disk.choice_by(0))
            for more in range(2):
                with self.assertRaises(Fallen) as caught:
                    recipe.step()
                self.assertEqual(caught.exception.since, disk.house().moment())
                self.assertEqual((recipe.left(), recipe.is_done()), (left, not left))
                disk.house().mark("/", more)

    def test_falls_ahead_of_it(self):
        disk = begun()
        disk.fall((0, ()))
        self.assertEqual(gone_on(Recipe(disk, "a/f", "newer"), 6), [*STEPS, None])


def found_behind(disk, choice, path):
    """What stands at a path behind a fall: its text, None where there is nothing."""
    other = disk.twin()
    other.fall(choice)
    try:
        return other.house().read(path)
    except Fault as fault:
        assert fault.word == "absent"
        return None


class TestBehindEveryFall(unittest.TestCase):
    def each_fall(self, disk, recipe, path, elder, newer, between=None):
        """At every step, all choices; told is how many there were."""
        tried = 0
        while True:
            found = {choice: found_behind(disk, choice, path) for choice in disk.choices(most=5000)}
            self.assertLessEqual(set(found.values()), {newer} if recipe.is_done() else {elder, newer})
            tried += len(found)
            if recipe.step() is None:
                return tried
            if between is not None:
                between()

    def test_over_a_file_and_over_nothing(self):
        for path, elder in (("a/f", "elder"), ("a/new", None), ("l/h", ""), ("x", None)):
            for newer in ("newer", "", "elder and more", "x" * 200):
                disk = begun()
                self.assertGreater(self.each_fall(disk, Recipe(disk, path, newer), path, elder, newer), 10)
                self.assertEqual(disk.house().read(path), newer)

    def test_beside_stands(self):
        for beside in ("e", "h", "f"):
            disk = begun()
            self.each_fall(disk, Recipe(disk, "a/x", "newer", beside=beside), "a/x", None, "newer")
        # What was made beside by a recipe that a fall broke off.
        disk = begun()
        gone_on(Recipe(disk, "a/f", "lost"), 3)
        disk.fall((1, ()))
        self.assertIn("beside", disk.house().listed("a"))
        self.each_fall(disk, Recipe(disk, "a/f", "newer"), "a/f", "elder", "newer")

    def test_again_and_again(self):
        disk = begun()
        for elder, newer in (("elder", "one"), ("one", "two"), ("two", "")):
            self.each_fall(disk, Recipe(disk, "a/f", newer), "a/f", elder, newer)

    def test_others_work_elsewhere(self):
        chance = random.Random(23)
        for _ in range(12):
            disk = begun()
            house = disk.house()
            handle = house.grasp("g")

            def between():
                word = chance.choice(("make", "write", "all", "move", "names", "keep"))
                if word == "make":
                    house.make(chance.choice(("a/", "")) + "xyz" + chance.choice("abcdefgh") + chance.choice("abcdefgh"), FILE)
                if word == "write":
                    house.write(handle, 0, "gg")
                if word == "all":
                    house.do_all([("mark", 1, chance.randrange(9)), ("write", 5, 0, "all")])
                if word == "move":
                    house.exchange("a/e", "l")
                if word == "names":
                    disk.keep_names()
                if word == "keep":
                    disk.keep(handle)

            between()
            self.each_fall(disk, Recipe(disk, "a/f", "newer"), "a/f", "elder", "newer", between)

    def test_for_each_step_left_out_one_is_lost(self):
        for word in MAY_BE_LEFT_OUT:
            disk = begun()
            gone_on(Recipe(disk, "a/f", "newer", without=(word,)))
            found = {found_behind(disk, choice, "a/f") for choice in disk.choices()}
            self.assertGreater(found, {"newer"} if word != "write" else set())
            self.assertNotEqual(found, {"newer"})


class TestBrokenFall(unittest.TestCase):
    def test_played_by_hand(self):
        for word in MAY_BE_LEFT_OUT:
            told = broken_fall(word)
            self.assertEqual((type(told), len(told)), (tuple, 4))
            elder, newer, choice, found = told
            self.assertNotEqual(elder, newer)
            self.assertNotEqual(found, newer)
            disk = Disk(House())
            house = disk.house()
            house.make("f", FILE)
            handle = house.grasp("f")
            house.write(handle, 0, elder)
            disk.keep(handle)
            disk.keep_names()
            house.close(handle)
            recipe = Recipe(disk, "f", newer, beside="g", without=[word])
            while recipe.step() is not None:
                pass
            self.assertIs(recipe.is_done(), True)
            self.assertIs(disk.is_choice(choice), True)
            disk.fall(choice)
            self.assertEqual(house.read("f"), found)
            self.assertEqual(broken_fall(word=word), told)

    def test_no_words(self):
        for word in ODD + ("make", "move", "", "Write", "writes", ["write"], ("write",), {"write"}, STEPS):
            with self.assertRaises(NoRecipe) as caught:
                broken_fall(word)
            self.assertIs(caught.exception.thing, word)


if __name__ == "__main__":
    unittest.main()
