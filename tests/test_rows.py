"""Point 7: rows, histories, entries."""

import random
import unittest

from onehistory.errors import NoChange, NoMoment, NoRow
from onehistory.rows import History, is_entry, tree_at
from onehistory.tree import Tree
from tests.naive import Naive, at_each_moment, behind, some_change, told
from tests.test_changes import SAMPLES
from tests.things import NO_NUMBERS, ODD

FOLDER, FILE = ("folder",), ("file",)
# moment 1: a; 2: f; 3: f written; 4: a again, f gone and no number free; 5: g; 6: as at 3; 7: as at 5 (a, g).
ROW = (
    ("make", 0, "a", 1, FOLDER), ("make", 1, "f", 2, FILE), ("write", 2, 0, "hey"), ("cut back", 1),
    ("make", 0, "g", 3, FILE), ("cut back", 3), ("cut back", 5),
)
NO_ROWS = (None, True, False, 0, 1, "", "row", b"", {}, {"a": 1}, {1}, frozenset(), range(0), object(), 1.5, list, iter([]))


class TestEntries(unittest.TestCase):
    def test_changes_and_cuts_back(self):
        for thing in SAMPLES + (("all", SAMPLES), ("cut back", 0), ("cut back", 1), ("cut back", 10 ** 29)):
            with self.subTest(thing=thing):
                self.assertIs(is_entry(thing), True)

    def test_what_is_no_entry(self):
        for thing in ODD + (
            (), [], "cut back", ("cut back",), ("cut back", -1), ("cut back", True), ("cut back", False), ("cut back", None),
            ("cut back", 1.0), ("cut back", "0"), ("cut back", 0, 0), ["cut back", 0], ("cut  back", 0), ("Cut back", 0),
            (b"cut back", 0), ("cut back", (0,)), ("all", (("cut back", 0),)), ("all", (SAMPLES[0], ("cut back", 0))),
            ("mark", 0, 1000), list(SAMPLES[0]), ("cut back", []), ([], 0),
        ):
            with self.subTest(thing=thing):
                self.assertIs(is_entry(thing), False)


class TestHistory(unittest.TestCase):
    def test_empty(self):
        for history in (History(), History(()), History([]), History(row=())):
            self.assertEqual(len(history), 0)
            self.assertEqual(history.at(0), Tree())

    def test_led_through_without_cuts_back(self):
        history = History(ROW[:3])
        tree = Tree()
        self.assertEqual(history.at(0), tree)
        for moment, change in enumerate(ROW[:3], start=1):
            tree.do(change)
            self.assertEqual(told(history.at(moment)), told(tree))
        self.assertEqual(len(history), 3)

    def test_led_through_with_cuts_back(self):
        for row in (ROW, list(ROW)):
            history = History(row)
            trees = [history.at(moment) for moment in range(8)]
            self.assertEqual([told(tree) for tree in trees], at_each_moment(ROW))
            self.assertEqual([tree.last() for tree in trees], [0, 1, 2, 2, 2, 3, 3, 3])
            self.assertEqual([tree.things() for tree in trees[3:]], [[0, 1, 2], [0, 1], [0, 1, 3], [0, 1, 2], [0, 1, 3]])
            self.assertEqual(trees[6].text(2), "hey")
            self.assertEqual(len(history), 7)

    def test_behind_a_cut_back_all_but_the_greatest_number_is_as_it_was(self):
        history = History(ROW[:3] + (("cut back", 2), ("cut back", 0)))
        self.assertNotEqual(history.at(5), history.at(0))
        self.assertEqual((len(history.at(5)), history.at(5).last(), history.at(5).turns(0)), (1, 2, 0))
        self.assertEqual(history.at(4), history.at(2))
        self.assertEqual((history.at(4).text(2), history.at(4).turns(1)), ("", 1))

    def test_no_number_is_made_twice(self):
        history = History([("make", 0, "a", 1, FILE), ("cut back", 0)])
        with self.assertRaises(NoChange) as caught:
            history.put(("make", 0, "a", 1, FILE))
        self.assertEqual(caught.exception.word, "thing")
        history.put(("make", 0, "a", 2, FILE))
        history.put(("cut back", 0))
        history.put(("cut back", 1))
        self.assertEqual((history.at(5).things(), history.at(5).last()), ([0, 1], 2))
        history.put(("make", 0, "b", 3, FILE))
        self.assertEqual(history.at(6).names(0), {"a": 1, "b": 3})

    def test_a_cut_back_to_now_and_behind_itself(self):
        history = History([("cut back", 0), ("make", 0, "a", 1, FILE), ("cut back", 2), ("cut back", 1), ("cut back", 2)])
        self.assertEqual([len(history.at(moment)) for moment in range(6)], [1, 1, 2, 2, 1, 2])

    def test_what_is_no_moment(self):
        history = History(ROW)
        for thing in NO_NUMBERS + (8, 9, 100):
            with self.subTest(thing=thing):
                with self.assertRaises(NoMoment) as caught:
                    history.at(thing)
                self.assertIs(caught.exception.thing, thing)
        self.assertEqual(len(history.at(moment=7)), 3)

    def test_a_tree_that_is_told_can_be_twinned_and_changed(self):
        history = History(ROW)
        before = told(history.at(7))
        tree = history.at(7).twin()
        tree.do(("make", 0, "z", 4, FILE))
        self.assertEqual(told(history.at(7)), before)


class TestNoRow(unittest.TestCase):
    def assert_no_row(self, row, number, cause=None):
        for ask in (History, tree_at, lambda row: tree_at(row, 0), lambda row: tree_at(row, None),
                    lambda row: tree_at(row, "x"), lambda row: tree_at(row=row, moment=1000)):
            with self.assertRaises(NoRow) as caught:
                ask(row)
            self.assertEqual(caught.exception.number, number)
            if number is None:
                self.assertIsNone(caught.exception.number)
                continue
            self.assertIs(type(caught.exception.__cause__), type(cause))
            self.assertEqual(vars(caught.exception.__cause__), vars(cause))

    def test_no_list_or_tuple(self):
        for thing in NO_ROWS:
            with self.subTest(thing=thing):
                self.assert_no_row(thing, None)

    def test_the_first_entry_that_cant_be_done(self):
        make = ("make", 0, "a", 1, FILE)
        for row, number, cause in (
            ([None], 0, NoChange("form")),
            (["mark"], 0, NoChange("form")),
            ([make, make], 1, NoChange("there")),
            ((make, ("strike", 0, "b"), None), 1, NoChange("absent")),
            ((make, ("cut back", 2)), 1, NoMoment(2)),
            ((("cut back", 1), make), 0, NoMoment(1)),
            ((make, ("cut back", 0), make), 2, NoChange("thing")),
            ((make, ("cut back", True)), 1, NoChange("form")),
            ((make, ("cut back", -1)), 1, NoChange("form")),
            ((make, list(make)), 1, NoChange("form")),
            ((make, ("mark", 1, 1000), ("mark", 9, 9)), 1, NoChange("form")),
            ((make, ("all", (("mark", 1, 1), ("cut", 1, 1)))), 1, NoChange("size")),
            ((make, ("all", (("cut back", 0),))), 1, NoChange("form")),
            ([make, make[:4] + (FOLDER,)], 1, NoChange("there")),
            ([[make]], 0, NoChange("form")),
            ([("mark", 0, 1)] * 50 + [("mark", 1, 1)] + [("mark", 0, 1)] * 3, 50, NoChange("absent")),
        ):
            with self.subTest(row=row):
                self.assert_no_row(row, number, cause)
                self.assertIs(type(History(row[:number])), History)


class TestPut(unittest.TestCase):
    def test_entries_are_put_behind_the_others(self):
        history = History()
        for moment, entry in enumerate(ROW, start=1):
            self.assertIsNone(history.put(entry=entry))
            self.assertEqual(len(history), moment)
        self.assertEqual([told(history.at(moment)) for moment in range(8)], at_each_moment(ROW))

    def test_what_is_refused_changes_nothing(self):
        history = History(ROW)
        before = [told(history.at(moment)) for moment in range(8)]
        for entry, error in (
            (("cut back", 8), NoMoment(8)),
            (("cut back", 10 ** 29), NoMoment(10 ** 29)),
            (("cut back", -1), NoChange("form")),
            (("cut back", True), NoChange("form")),
            (("cut back", False), NoChange("form")),
            (("cut back", None), NoChange("form")),
            (("cut back", 1.0), NoChange("form")),
            (("cut back", "1"), NoChange("form")),
            (("cut back",), NoChange("form")),
            (["cut back", 1], NoChange("form")),
            (("mark", 0, 1000), NoChange("form")),
            (("all", (("cut back", 1),)), NoChange("form")),
            (("make", 0, "n", 3, FILE), NoChange("thing")),
            (("make", 0, "g", 4, FILE), NoChange("there")),
            (("make", 2, "n", 4, FILE), NoChange("absent")),
            (("write", 1, 0, ""), NoChange("kind")),
            (("cut", 3, 1), NoChange("size")),
            (("all", (("make", 0, "n", 4, FILE), ("mark", 4, 1), ("strike", 0, "zz"))), NoChange("absent")),
            *((thing, NoChange("form")) for thing in ODD),
        ):
            with self.subTest(entry=entry):
                with self.assertRaises(type(error)) as caught:
                    history.put(entry)
                self.assertEqual(vars(caught.exception), vars(error))
                self.assertEqual(len(history), 7)
                self.assertEqual([told(history.at(moment)) for moment in range(8)], before)
        history.put(("make", 0, "n", 4, FILE))
        self.assertEqual(len(history), 8)

    def test_what_is_handed_in_stays_as_it_was(self):
        row = list(ROW[:3])
        history = History(row)
        history.put(ROW[3])
        self.assertEqual(row, list(ROW[:3]))
        tree_at(row, 2)
        self.assertEqual(row, list(ROW[:3]))

    def test_nothing_done_to_the_row_behind_the_call_changes_the_history(self):
        row = list(ROW)
        history = History(row)
        before = [told(history.at(moment)) for moment in range(8)]
        row[0] = None
        row.append(("mark", 0, 5))
        del row[3:]
        self.assertEqual(len(history), 7)
        self.assertEqual([told(history.at(moment)) for moment in range(8)], before)

    def test_trees_told_ahead_stay_as_they_were(self):
        history = History(ROW[:3])
        tree = history.at(3)
        before = told(tree)
        history.put(("write", 2, 0, "x"))
        history.put(("cut back", 3))
        history.put(("mark", 2, 9))
        self.assertEqual(told(tree), before)


class TestTwins(unittest.TestCase):
    def test_twins_go_on_by_themselves(self):
        history = History(ROW)
        twin = history.twin()
        self.assertIs(type(twin), History)
        self.assertEqual([told(twin.at(moment)) for moment in range(8)], at_each_moment(ROW))
        twin.put(("make", 0, "n", 4, FILE))
        twin.put(("cut back", 2))
        self.assertEqual((len(history), len(twin)), (7, 9))
        history.put(("make", 0, "m", 4, FOLDER))
        self.assertEqual((history.at(8).kind(4), twin.at(8).kind(4)), ("folder", "file"))
        self.assertEqual((len(history), len(twin)), (8, 9))
        with self.assertRaises(NoMoment):
            history.at(9)


class TestTreeAt(unittest.TestCase):
    def test_at_each_moment(self):
        for row in (ROW, list(ROW)):
            for moment, tree in enumerate(at_each_moment(ROW)):
                self.assertEqual(told(tree_at(row, moment)), tree)
                self.assertEqual(told(tree_at(moment=moment, row=row)), tree)

    def test_at_the_end_where_the_moment_is_left_out(self):
        self.assertEqual(told(tree_at(ROW)), at_each_moment(ROW)[7])
        self.assertEqual(told(tree_at(ROW, None)), at_each_moment(ROW)[7])
        self.assertEqual(tree_at(()), Tree())
        self.assertEqual(tree_at([]), Tree())

    def test_what_is_no_moment(self):
        for thing in NO_NUMBERS + (8, 1000):
            if thing is None:
                continue
            with self.subTest(thing=thing):
                with self.assertRaises(NoMoment) as caught:
                    tree_at(ROW, thing)
                self.assertIs(caught.exception.thing, thing)

    def test_the_tree_is_the_askers_own(self):
        tree_at(ROW).do(("mark", 0, 5))
        tree_at(ROW, 2).do(("strike", 1, "f"))
        self.assertEqual(told(tree_at(ROW)), at_each_moment(ROW)[7])
        self.assertEqual(told(tree_at(ROW, 2)), at_each_moment(ROW)[2])


class TestByChance(unittest.TestCase):
    def test_rows_are_led_through_as_by_the_naive_ones(self):
        for seed in range(30):
            chance = random.Random(seed)
            row, history, trees = [], History(), [Naive()]
            for _ in range(80):
                if chance.random() < 0.1:
                    entry = ("cut back", chance.randrange(len(row) + 1))
                else:
                    entry = some_change(chance, trees[-1].last)
                if entry[0] != "cut back" and trees[-1].refusal(entry) is not None:
                    self.assert_refused(history, row, entry)
                    continue
                row.append(entry)
                history.put(entry)
                trees.append(behind(trees, entry))
            for whole in (history, History(row), History(tuple(row))):
                self.assertEqual([told(whole.at(moment)) for moment in range(len(row) + 1)], [tree.told() for tree in trees])

    def assert_refused(self, history, row, entry):
        with self.assertRaises(NoChange):
            history.put(entry)
        with self.assertRaises(NoRow) as caught:
            History([*row, entry, None])
        self.assertEqual(caught.exception.number, len(row))


if __name__ == "__main__":
    unittest.main()
