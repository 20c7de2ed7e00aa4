"""Points 5 and 6: with which word a change is refused, and which word goes first."""

import unittest

from onehistory.errors import NoChange
from onehistory.tree import Tree
from tests.naive import told
from tests.test_changes import FORMS
from tests.test_tree import FILE, FOLDER, grown, planted
from tests.things import ODD

# The grown tree: 0: a (1: b (2: f 3), f 3), f 3, l 4, e 5; 6, 7, 8 are a loose folder, file, link; 9 is the next.
# Each row is a change, the word with which it is refused.
MAKE = (
    (("make", 9, "n", 9, FILE), "absent"),
    (("make", 99, "n", 9, FOLDER), "absent"),
    (("make", 3, "n", 9, FILE), "kind"),
    (("make", 4, "n", 9, FILE), "kind"),
    (("make", 7, "n", 9, FILE), "kind"),
    (("make", 8, "n", 9, FILE), "kind"),
    (("make", 6, "n", 9, FILE), "loose"),
    (("make", 0, "a", 9, FILE), "there"),
    (("make", 2, "f", 9, ("link", ".")), "there"),
    (("make", 0, "n", 0, FILE), "thing"),
    (("make", 0, "n", 3, FILE), "thing"),
    (("make", 0, "n", 8, FILE), "thing"),
    (("make", 0, "n", 10, FILE), "thing"),
    # The folder and the name go ahead of the number.
    (("make", 10, "n", 10, FILE), "absent"),
    (("make", 3, "n", 10, FILE), "kind"),
    (("make", 6, "n", 10, FILE), "loose"),
    (("make", 0, "a", 10, FILE), "there"),
)
WRITE = (
    (("write", 9, 0, ""), "absent"),
    (("write", 9, 200, "x"), "absent"),
    (("write", 0, 0, ""), "kind"),
    (("write", 4, 0, "x"), "kind"),
    (("write", 6, 300, "x"), "kind"),
    (("write", 3, 6, ""), "size"),
    (("write", 3, 6, "x"), "size"),
    (("write", 7, 5, "x"), "size"),
    (("write", 3, 10 ** 29, ""), "size"),
    (("write", 3, 5, "x" * 196), "size"),
    (("write", 3, 1, "x" * 200), "size"),
)
CUT = (
    (("cut", 9, 0), "absent"),
    (("cut", 9, 300), "absent"),
    (("cut", 1, 0), "kind"),
    (("cut", 8, 300), "kind"),
    (("cut", 3, 6), "size"),
    (("cut", 7, 5), "size"),
    (("cut", 3, 10 ** 29), "size"),
)
NAME = (
    (("name", 9, "n", 3), "absent"),
    (("name", 3, "n", 3), "kind"),
    (("name", 4, "n", 3), "kind"),
    (("name", 6, "n", 3), "loose"),
    (("name", 0, "a", 3), "there"),
    (("name", 0, "f", 3), "there"),
    (("name", 0, "n", 9), "absent"),
    (("name", 0, "n", 1), "kind"),
    (("name", 0, "n", 0), "kind"),
    (("name", 0, "n", 4), "kind"),
    (("name", 0, "n", 6), "kind"),
    (("name", 0, "n", 8), "kind"),
    # The folder and the name go ahead of the file.
    (("name", 9, "n", 0), "absent"),
    (("name", 3, "n", 9), "kind"),
    (("name", 6, "n", 9), "loose"),
    (("name", 6, "n", 0), "loose"),
    (("name", 0, "a", 9), "there"),
    (("name", 0, "a", 4), "there"),
)
STRIKE = (
    (("strike", 9, "a"), "absent"),
    (("strike", 3, "a"), "kind"),
    (("strike", 4, "a"), "kind"),
    (("strike", 7, "a"), "kind"),
    (("strike", 0, "n"), "absent"),
    (("strike", 5, "a"), "absent"),
    (("strike", 6, "a"), "absent"),
    (("strike", 0, "a"), "full"),
    (("strike", 1, "b"), "full"),
)
MOVE = (
    (("move", 9, "a", 0, "n"), "absent"),
    (("move", 3, "a", 0, "n"), "kind"),
    (("move", 4, "a", 0, "n"), "kind"),
    (("move", 0, "n", 0, "m"), "absent"),
    (("move", 6, "n", 0, "m"), "absent"),
    (("move", 0, "f", 9, "n"), "absent"),
    (("move", 0, "f", 4, "n"), "kind"),
    (("move", 0, "f", 3, "n"), "kind"),
    (("move", 0, "f", 6, "n"), "loose"),
    (("move", 0, "a", 6, "n"), "loose"),
    (("move", 0, "f", 0, "f"), "same"),
    (("move", 0, "f", 1, "f"), "same"),
    (("move", 0, "a", 0, "a"), "same"),
    (("move", 1, "b", 1, "b"), "same"),
    (("move", 0, "l", 0, "l"), "same"),
    (("move", 0, "a", 1, "n"), "within"),
    (("move", 0, "a", 2, "n"), "within"),
    (("move", 1, "b", 2, "n"), "within"),
    (("move", 0, "e", 5, "n"), "within"),
    (("move", 0, "f", 0, "e"), "kind"),
    (("move", 0, "l", 0, "e"), "kind"),
    (("move", 0, "e", 0, "f"), "kind"),
    (("move", 0, "e", 0, "l"), "kind"),
    (("move", 1, "b", 0, "a"), "full"),
    (("move", 0, "e", 0, "a"), "full"),
    (("move", 0, "e", 1, "b"), "full"),
    # The first place goes ahead of the folder to, and that ahead of all that is due behind.
    (("move", 9, "a", 3, "n"), "absent"),
    (("move", 3, "a", 9, "n"), "kind"),
    (("move", 3, "a", 6, "n"), "kind"),
    (("move", 0, "n", 3, "n"), "absent"),
    (("move", 0, "n", 6, "n"), "absent"),
    # So do same, within, kind, full go one behind the other.
    (("move", 0, "a", 1, "b"), "within"),
    (("move", 0, "a", 1, "f"), "within"),
    (("move", 0, "a", 2, "f"), "within"),
    (("move", 0, "f", 0, "a"), "kind"),
    (("move", 2, "f", 1, "b"), "kind"),
    (("move", 1, "f", 0, "a"), "kind"),
)
EXCHANGE = (
    (("exchange", 9, "a", 0, "a"), "absent"),
    (("exchange", 0, "n", 0, "a"), "absent"),
    (("exchange", 0, "a", 9, "a"), "absent"),
    (("exchange", 0, "a", 0, "n"), "absent"),
    (("exchange", 6, "n", 0, "a"), "absent"),
    (("exchange", 0, "a", 6, "n"), "absent"),
    (("exchange", 3, "a", 0, "a"), "kind"),
    (("exchange", 0, "a", 4, "a"), "kind"),
    (("exchange", 0, "f", 0, "f"), "same"),
    (("exchange", 0, "f", 1, "f"), "same"),
    (("exchange", 2, "f", 0, "f"), "same"),
    (("exchange", 0, "a", 0, "a"), "same"),
    (("exchange", 0, "a", 1, "b"), "within"),
    (("exchange", 1, "b", 0, "a"), "within"),
    (("exchange", 0, "a", 1, "f"), "within"),
    (("exchange", 2, "f", 0, "a"), "within"),
    (("exchange", 1, "b", 2, "f"), "within"),
    # The first place goes ahead of the second one.
    (("exchange", 9, "a", 3, "a"), "absent"),
    (("exchange", 3, "a", 9, "a"), "kind"),
    (("exchange", 0, "n", 3, "a"), "absent"),
    (("exchange", 3, "a", 0, "n"), "kind"),
)
MARK = (
    (("mark", 9, 0), "absent"),
    (("mark", 99, 999), "absent"),
)
REFUSED = MAKE + WRITE + CUT + NAME + STRIKE + MOVE + EXCHANGE + MARK


class TestWords(unittest.TestCase):
    def assert_refused(self, tree, change, word):
        before = told(tree)
        self.assertIs(tree.can(change), False)
        with self.assertRaises(NoChange) as caught:
            tree.do(change)
        self.assertEqual(caught.exception.word, word)
        self.assertEqual(told(tree), before)

    def test_each_word_of_each_change(self):
        for change, word in REFUSED:
            with self.subTest(change=change):
                self.assert_refused(grown(), change, word)

    def test_alone_in_an_all(self):
        for change, word in REFUSED:
            with self.subTest(change=change):
                self.assert_refused(grown(), ("all", (change,)), word)

    def test_the_rows_above_name_every_word(self):
        words = {word for _, word in REFUSED}
        self.assertEqual(words, {"absent", "kind", "loose", "there", "thing", "size", "same", "within", "full"})
        self.assertEqual({change[0] for change, _ in REFUSED}, set(FORMS))

    def test_what_is_no_change_by_its_form(self):
        tree = grown()
        for thing in ODD + (
            "make", ("cut back", 0), ["mark", 0, 1], ("mark", 0, 1000), ("mark", 99, 1000), ("mark", True, 1),
            ("make", 99, "N", 9, FILE), ("make", 0, "n", 9, "file"), ("write", 99, 0, "\t"), ("cut", 3, -1),
            ("strike", 99, ".."), ("all", ()), ("all", [("mark", 0, 1)]), ("all", (("all", (("mark", 0, 1),)),)),
            ("all", (("mark", 99, 1), ("mark", 0, 1000))), ("all", (("mark", 0, 1),) * 201),
        ):
            with self.subTest(thing=thing):
                self.assert_refused(tree, thing, "form")

    def test_can_tells_of_what_can_be_done_and_does_nothing(self):
        tree = grown()
        before = told(tree)
        for change in (("make", 0, "n", 9, FILE), ("write", 3, 5, "x" * 195), ("cut", 3, 5), ("name", 2, "n", 7),
                       ("strike", 0, "e"), ("move", 0, "f", 0, "l"), ("exchange", 0, "e", 1, "b"), ("mark", 8, 999)):
            self.assertIs(tree.can(change), True, change)
            self.assertIs(tree.can(("all", (change,))), True, change)
        self.assertEqual(told(tree), before)

    def test_edges_of_the_sizes(self):
        tree = grown()
        tree.do(("write", 3, 5, "x" * 195))
        self.assertEqual(len(tree.text(3)), 200)
        self.assert_refused(tree, ("write", 3, 200, "y"), "size")
        self.assert_refused(tree, ("cut", 3, 201), "size")
        for change in (("write", 3, 200, ""), ("write", 3, 199, "y"), ("cut", 3, 200), ("write", 3, 0, "z" * 200)):
            tree.do(change)
        self.assertEqual(tree.text(3), "z" * 200)


class TestAlls(unittest.TestCase):
    def test_the_word_of_the_first_that_cant_be_done(self):
        good = ("mark", 0, 1)
        for first, word in REFUSED:
            for second, other in ((("strike", 0, "a"), "full"), (("mark", 99, 0), "absent")):
                with self.subTest(first=first, second=second):
                    tree = grown()
                    self.assertIs(tree.can(good), True)
                    for changes, due in (((good, first, second), word), ((second, first), other)):
                        with self.assertRaises(NoChange) as caught:
                            tree.do(("all", changes))
                        self.assertEqual(caught.exception.word, due)

    def test_each_is_looked_at_behind_those_ahead(self):
        made = ("make", 0, "n", 9, FOLDER)
        for changes, word in (
            ((made, ("make", 0, "m", 9, FILE)), "thing"),
            ((made, ("make", 0, "n", 10, FILE)), "there"),
            ((made, ("make", 9, "m", 10, FILE), ("strike", 0, "n")), "full"),
            ((made, ("strike", 0, "n"), ("make", 9, "m", 10, FILE)), "loose"),
            ((("strike", 0, "l"), ("strike", 0, "l")), "absent"),
            ((("cut", 3, 0), ("cut", 3, 1)), "size"),
            ((("move", 0, "e", 2, "e"), ("move", 0, "a", 5, "n")), "within"),
            ((("move", 0, "l", 0, "m"), ("move", 0, "m", 0, "m")), "same"),
            ((("exchange", 0, "e", 0, "f"), ("write", 3, 6, "")), "size"),
            ((("exchange", 0, "e", 0, "f"), ("move", 0, "l", 0, "f")), "kind"),
        ):
            with self.subTest(changes=changes):
                tree = grown()
                self.assertIs(tree.can(("all", changes[:-1])), True)
                with self.assertRaises(NoChange) as caught:
                    tree.do(("all", changes))
                self.assertEqual(caught.exception.word, word)
                self.assertEqual((tree, tree.last()), (grown(), 8))

    def test_what_one_ahead_lets_be_done(self):
        tree = grown()
        for changes in (
            (("strike", 2, "f"), ("strike", 1, "b")),
            (("make", 0, "n", 9, FOLDER), ("make", 9, "m", 10, FILE), ("write", 10, 0, "x"), ("cut", 10, 1)),
            (("strike", 0, "l"), ("make", 0, "l", 9, FILE)),
        ):
            self.assertIs(tree.can(("all", changes)), True)
            self.assertIs(tree.can(("all", changes[::-1])), False)


class TestLoose(unittest.TestCase):
    def test_a_loose_folder_takes_no_names(self):
        tree = planted(("make", 0, "a", 1, FOLDER), ("make", 0, "b", 2, FOLDER), ("make", 0, "f", 3, FILE),
                       ("move", 0, "a", 0, "b"))
        self.assertEqual(tree.loose(), [2])
        for change in (("make", 2, "n", 4, FILE), ("name", 2, "n", 3), ("move", 0, "f", 2, "n"), ("move", 0, "b", 2, "n")):
            with self.assertRaises(NoChange) as caught:
                tree.do(change)
            self.assertEqual(caught.exception.word, "loose")
        tree.do(("mark", 2, 5))
        self.assertEqual(tree.mark(2), 5)

    def test_the_root_is_never_loose(self):
        tree = Tree()
        tree.do(("make", 0, "a", 1, FILE))
        self.assertEqual((tree.loose(), tree.parent(0)), ([], None))


if __name__ == "__main__":
    unittest.main()
