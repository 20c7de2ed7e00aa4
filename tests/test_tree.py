"""Points 5 and 6: what trees do and tell."""

import random
import unittest

from onehistory.errors import NoChange, NoThing
from onehistory.tree import ROOT, Tree, beneath
from tests.naive import Naive, some_change, told
from tests.things import NO_NUMBERS

FOLDER, FILE = ("folder",), ("file",)


def planted(*changes):
    tree = Tree()
    for change in changes:
        tree.do(change)
    return tree


def grown():
    """A tree with things of every kind, loose ones too.

    0: a (1: b (2: f 3), f 3), f 3, l 4, e 5; 6, 7, 8 are a loose folder, file, link.
    """
    return planted(
        ("make", 0, "a", 1, FOLDER), ("make", 1, "b", 2, FOLDER), ("make", 0, "f", 3, FILE),
        ("make", 0, "l", 4, ("link", "/a")), ("make", 0, "e", 5, FOLDER),
        ("name", 1, "f", 3), ("name", 2, "f", 3), ("write", 3, 0, "hello"),
        ("make", 0, "x", 6, FOLDER), ("strike", 0, "x"), ("make", 0, "x", 7, FILE), ("write", 7, 0, "gone"),
        ("strike", 0, "x"), ("make", 0, "x", 8, ("link", "..")), ("strike", 0, "x"),
    )


class TestAtFirst(unittest.TestCase):
    def test_the_root_alone(self):
        tree = Tree()
        self.assertEqual(ROOT, 0)
        self.assertIs(type(ROOT), int)
        self.assertEqual(tree.things(), [0])
        self.assertEqual(tree.kind(0), "folder")
        self.assertEqual(tree.names(0), {})
        self.assertEqual(tree.mark(0), 0)
        self.assertEqual(tree.turns(0), 0)
        self.assertEqual(tree.places(0), [])
        self.assertIsNone(tree.parent(0))
        self.assertEqual(tree.loose(), [])
        self.assertEqual(tree.last(), 0)
        self.assertEqual(len(tree), 1)
        self.assertEqual(repr(tree), "Tree(1 things)")
        self.assertEqual(beneath(tree, 0), [0])

    def test_it_takes_nothing(self):
        with self.assertRaises(TypeError):
            Tree(())


class TestDeeds(unittest.TestCase):
    def test_make(self):
        tree = Tree()
        self.assertIsNone(tree.do(("make", 0, "a", 1, FOLDER)))
        tree.do(("make", 1, "b", 2, FILE))
        tree.do(change=("make", 1, "c", 3, ("link", "../a")))
        self.assertEqual([tree.kind(thing) for thing in tree.things()], ["folder", "folder", "file", "link"])
        self.assertEqual((tree.names(1), tree.turns(1), tree.mark(1)), ({"b": 2, "c": 3}, 2, 0))
        self.assertEqual((tree.text(2), tree.places(2), tree.mark(2)), ("", [(1, "b")], 0))
        self.assertEqual((tree.target(3), tree.places(3), tree.mark(3)), ("../a", [(1, "c")], 0))
        self.assertEqual(tree.parent(1), (0, "a"))
        self.assertEqual(tree.last(), 3)

    def test_numbers_go_on_behind_what_is_struck(self):
        tree = planted(("make", 0, "a", 1, FILE), ("strike", 0, "a"))
        self.assertIs(tree.can(("make", 0, "a", 1, FILE)), False)
        tree.do(("make", 0, "a", 2, FILE))
        self.assertEqual((tree.names(0), tree.loose(), tree.things()), ({"a": 2}, [1], [0, 1, 2]))

    def test_write(self):
        for start, signs, text in (
            (0, "", "hello"), (5, "", "hello"), (0, "J", "Jello"), (1, "ipp", "hippo"), (4, "ium", "hellium"),
            (5, " you\n", "hello you\n"), (0, "goodbye", "goodbye"), (2, "x" * 198, "he" + "x" * 198),
            (0, "y" * 200, "y" * 200),
        ):
            with self.subTest(start=start, signs=signs):
                tree = grown()
                tree.do(("write", 3, start, signs))
                self.assertEqual(tree.text(3), text)
                self.assertEqual(tree.text(7), "gone")

    def test_cut(self):
        for size, text in ((0, ""), (2, "he"), (5, "hello")):
            tree = grown()
            tree.do(("cut", 3, size))
            self.assertEqual(tree.text(3), text)

    def test_a_file_has_several_names(self):
        tree = grown()
        self.assertEqual(tree.places(3), [(0, "f"), (1, "f"), (2, "f")])
        tree.do(("name", 0, "c", 3))
        self.assertEqual(tree.places(3), [(0, "c"), (0, "f"), (1, "f"), (2, "f")])
        self.assertEqual([tree.names(0)["c"], tree.names(1)["f"], tree.names(2)["f"]], [3, 3, 3])
        for place in tree.places(3):
            self.assertEqual(tree.loose(), [6, 7, 8])
            tree.do(("strike", *place))
        self.assertEqual((tree.places(3), tree.loose(), tree.text(3)), ([], [3, 6, 7, 8], "hello"))

    def test_a_loose_file_is_written_cut_marked_and_named_again(self):
        tree = grown()
        tree.do(("write", 7, 4, "!"))
        tree.do(("cut", 7, 3))
        tree.do(("mark", 7, 4))
        self.assertEqual((tree.text(7), tree.mark(7), tree.places(7)), ("gon", 4, []))
        tree.do(("name", 2, "g", 7))
        self.assertEqual((tree.places(7), tree.loose()), ([(2, "g")], [6, 8]))

    def test_strike(self):
        tree = grown()
        for folder, name, thing in ((0, "l", 4), (0, "e", 5), (2, "f", 3)):
            tree.do(("strike", folder, name))
            self.assertNotIn(name, tree.names(folder))
            self.assertNotIn((folder, name), tree.places(thing))
        tree.do(("strike", 1, "b"))
        self.assertEqual(tree.loose(), [2, 4, 5, 6, 7, 8])
        self.assertIsNone(tree.parent(2))
        self.assertEqual(len(tree), 9)

    def test_move(self):
        tree = grown()
        tree.do(("move", 0, "l", 2, "m"))
        self.assertEqual((tree.places(4), tree.names(2)), ([(2, "m")], {"f": 3, "m": 4}))
        self.assertEqual(list(tree.names(0)), ["a", "e", "f"])
        tree.do(("move", 1, "b", 0, "b"))
        self.assertEqual((tree.parent(2), tree.names(1)), ((0, "b"), {"f": 3}))
        tree.do(("move", 0, "b", 0, "c"))
        self.assertEqual((tree.parent(2), tree.names(2)), ((0, "c"), {"f": 3, "m": 4}))

    def test_what_is_moved_over_goes(self):
        tree = grown()
        tree.do(("move", 0, "l", 0, "f"))
        self.assertEqual((tree.names(0), tree.places(3)), ({"a": 1, "e": 5, "f": 4}, [(1, "f"), (2, "f")]))
        tree.do(("move", 2, "f", 0, "f"))
        self.assertEqual((tree.names(0), tree.loose()), ({"a": 1, "e": 5, "f": 3}, [4, 6, 7, 8]))
        tree.do(("move", 1, "b", 0, "e"))
        self.assertEqual((tree.names(0), tree.parent(5)), ({"a": 1, "e": 2, "f": 3}, None))
        tree.do(("make", 0, "d", 9, FOLDER))
        tree.do(("move", 0, "a", 0, "d"))
        self.assertEqual((tree.names(0), tree.names(1)), ({"d": 1, "e": 2, "f": 3}, {"f": 3}))

    def test_exchange(self):
        tree = grown()
        tree.do(("exchange", 0, "l", 1, "b"))
        self.assertEqual((tree.names(0)["l"], tree.names(1)["b"]), (2, 4))
        self.assertEqual((tree.parent(2), tree.places(4)), ((0, "l"), [(1, "b")]))
        tree.do(("exchange", 0, "a", 0, "l"))
        self.assertEqual((tree.names(0)["a"], tree.names(0)["l"]), (2, 1))
        tree.do(("exchange", 2, "f", 0, "e"))
        self.assertEqual((tree.names(2), tree.names(0)["e"]), ({"f": 5}, 3))
        self.assertEqual(tree.places(3), [(0, "e"), (0, "f"), (1, "f")])
        self.assertEqual(tree.loose(), [6, 7, 8])

    def test_full_folders_are_exchanged(self):
        tree = planted(("make", 0, "a", 1, FOLDER), ("make", 0, "b", 2, FOLDER), ("make", 1, "c", 3, FOLDER),
                       ("make", 2, "d", 4, FILE), ("exchange", 1, "c", 0, "b"))
        self.assertEqual((tree.names(0), tree.names(1), tree.names(2)), ({"a": 1, "b": 3}, {"c": 2}, {"d": 4}))

    def test_mark(self):
        tree = grown()
        for thing in tree.things():
            tree.do(("mark", thing, 990 + thing))
        self.assertEqual([tree.mark(thing) for thing in tree.things()], list(range(990, 999)))
        tree.do(("mark", 0, 0))
        tree.do(("mark", 1, 999))
        self.assertEqual((tree.mark(0), tree.mark(1)), (0, 999))

    def test_all_are_done_one_behind_the_other(self):
        tree = Tree()
        tree.do(("all", (("make", 0, "a", 1, FOLDER), ("make", 1, "b", 2, FILE), ("write", 2, 0, "x"),
                         ("move", 1, "b", 0, "c"), ("strike", 0, "a"))))
        self.assertEqual((tree.names(0), tree.text(2), tree.loose(), tree.last()), ({"c": 2}, "x", [1], 2))
        self.assertEqual((tree.turns(0), tree.turns(1)), (3, 2))

    def test_two_hundred_changes_at_once(self):
        tree = Tree()
        tree.do(("all", (("make", 0, "a", 1, FILE), *(("mark", 1, number) for number in range(199)))))
        self.assertEqual((tree.mark(1), tree.turns(0)), (198, 1))

    def test_an_all_that_fails_in_the_middle_leaves_everything(self):
        tree = grown()
        before, twin = told(tree), tree.twin()
        good = (("make", 0, "n", 9, FOLDER), ("make", 9, "m", 10, FILE), ("mark", 0, 7), ("write", 3, 0, "J"),
                ("make", 9, "k", 11, ("link", ".")), ("cut", 7, 1), ("exchange", 0, "e", 0, "f"),
                ("move", 0, "l", 1, "l"), ("name", 9, "x", 7))
        for bad in (("strike", 0, "zz"), ("make", 0, "a", 12, FILE), ("write", 3, 9, ""), ("mark", 12, 1)):
            with self.assertRaises(NoChange):
                tree.do(("all", (*good, bad, ("mark", 1, 1))))
            self.assertIs(tree.can(("all", (*good, bad))), False)
            self.assertEqual(told(tree), before)
            self.assertEqual((tree, twin), (grown(), grown()))
        self.assertIs(tree.can(("all", good)), True)
        self.assertEqual(told(tree), before)
        tree.do(("all", good))
        self.assertEqual((tree.last(), tree.places(7)), (11, [(9, "x")]))


class TestTurns(unittest.TestCase):
    def turned(self, *changes):
        tree = grown()
        before = {thing: tree.turns(thing) for thing in (0, 1, 2, 5, 6)}
        for change in changes:
            tree.do(change)
        return {thing: tree.turns(thing) - many for thing, many in before.items() if tree.turns(thing) != many}

    def test_each_change_of_names(self):
        self.assertEqual(self.turned(("make", 0, "n", 9, FILE)), {0: 1})
        self.assertEqual(self.turned(("make", 2, "n", 9, FOLDER)), {2: 1})
        self.assertEqual(self.turned(("name", 1, "n", 3)), {1: 1})
        self.assertEqual(self.turned(("strike", 2, "f")), {2: 1})
        self.assertEqual(self.turned(("strike", 0, "e")), {0: 1})
        self.assertEqual(self.turned(("move", 0, "f", 0, "n")), {0: 1})
        self.assertEqual(self.turned(("move", 0, "f", 0, "l")), {0: 1})
        self.assertEqual(self.turned(("move", 0, "l", 1, "f")), {0: 1, 1: 1})
        self.assertEqual(self.turned(("move", 1, "b", 0, "e")), {0: 1, 1: 1})
        self.assertEqual(self.turned(("exchange", 0, "l", 0, "f")), {0: 1})
        self.assertEqual(self.turned(("exchange", 0, "l", 2, "f")), {0: 1, 2: 1})

    def test_what_does_nothing_to_names(self):
        self.assertEqual(self.turned(("write", 3, 0, "x"), ("cut", 3, 0), ("mark", 0, 1), ("mark", 1, 2)), {})

    def test_those_within_an_all_one_by_one(self):
        self.assertEqual(self.turned(("all", (("name", 1, "n", 3), ("strike", 1, "n"), ("mark", 1, 1)))), {1: 2})
        self.assertEqual(self.turned(("all", (("move", 0, "l", 0, "m"), ("move", 0, "m", 0, "l")))), {0: 2})

    def test_what_is_refused_turns_nothing(self):
        tree = grown()
        for change in (("strike", 0, "a"), ("make", 0, "n", 8, FILE), ("move", 0, "f", 1, "f")):
            with self.assertRaises(NoChange):
                tree.do(change)
        self.assertEqual((tree.turns(0), tree.turns(1)), (grown().turns(0), grown().turns(1)))


class TestTold(unittest.TestCase):
    def test_names_rise(self):
        tree = planted(("make", 0, "c", 1, FILE), ("make", 0, "a", 2, FILE), ("make", 0, "b", 3, FILE),
                       ("make", 0, "aa", 4, FILE))
        self.assertEqual(list(tree.names(0).items()), [("a", 2), ("aa", 4), ("b", 3), ("c", 1)])

    def test_places_rise(self):
        tree = planted(("make", 0, "z", 1, FOLDER), ("make", 1, "a", 2, FILE), ("name", 0, "b", 2), ("name", 1, "aa", 2),
                       ("name", 0, "a", 2))
        self.assertEqual(tree.places(2), [(0, "a"), (0, "b"), (1, "a"), (1, "aa")])
        self.assertEqual({type(place) for place in tree.places(2)}, {tuple})

    def test_by_the_names_of_the_interface(self):
        tree = grown()
        self.assertEqual((tree.kind(thing=3), tree.mark(thing=3), len(tree.places(thing=3))), ("file", 0, 3))
        self.assertEqual((tree.names(folder=2), tree.turns(folder=2), tree.parent(folder=2)), ({"f": 3}, 1, (1, "b")))
        self.assertEqual((tree.text(file=3), tree.target(link=4)), ("hello", "/a"))
        self.assertEqual(beneath(tree=tree, thing=2), [2, 3])
        self.assertIs(tree.can(thing=("mark", 0, 1)), True)

    def test_what_is_none_is_refused_with_the_very_thing(self):
        tree = grown()
        for thing in NO_NUMBERS + (9, 10, 1000, 10 ** 29):
            for ask in (tree.kind, tree.names, tree.text, tree.target, tree.mark, tree.turns, tree.places, tree.parent,
                        lambda thing: beneath(tree, thing)):
                with self.subTest(thing=thing, ask=ask):
                    with self.assertRaises(NoThing) as caught:
                        ask(thing)
                    self.assertIs(caught.exception.thing, thing)

    def test_what_is_of_another_kind_is_refused(self):
        tree = grown()
        kinds = {"folder": (0, 1, 2, 5, 6), "file": (3, 7), "link": (4, 8)}
        asks = {"folder": (tree.names, tree.turns, tree.parent), "file": (tree.text,), "link": (tree.target,)}
        for kind, things in kinds.items():
            for other, several in asks.items():
                for thing in things:
                    self.assertEqual(tree.kind(thing), kind)
                    for ask in several:
                        if kind == other:
                            ask(thing)
                            continue
                        with self.subTest(thing=thing, ask=ask), self.assertRaises(NoThing) as caught:
                            ask(thing)
                        self.assertEqual(caught.exception.thing, thing)

    def test_loose_things_are_told(self):
        tree = grown()
        self.assertEqual(tree.loose(), [6, 7, 8])
        self.assertEqual(tree.things(), list(range(9)))
        self.assertEqual((tree.names(6), tree.turns(6), tree.parent(6), tree.places(6)), ({}, 0, None, []))
        self.assertEqual((tree.text(7), tree.target(8), tree.mark(8)), ("gone", "..", 0))

    def test_length_and_repr(self):
        tree = grown()
        self.assertEqual((len(tree), repr(tree)), (9, "Tree(9 things)"))
        tree.do(("strike", 0, "l"))
        self.assertEqual((len(tree), repr(tree)), (9, "Tree(9 things)"))
        tree.do(("make", 0, "l", 9, FILE))
        self.assertEqual((len(tree), repr(tree)), (10, "Tree(10 things)"))

    def test_what_is_told_is_the_askers_own(self):
        tree = grown()
        before = told(tree)
        for _ in range(2):
            tree.names(0)["f"] = 5
            tree.names(0).clear()
            tree.names(6)["a"] = 1
            tree.places(3).append((0, "zz"))
            tree.places(3).clear()
            tree.things().clear()
            tree.loose().append(0)
            beneath(tree, 0).clear()
        self.assertEqual(told(tree), before)
        self.assertEqual((tree.loose(), beneath(tree, 0)), ([6, 7, 8], [0, 1, 2, 3, 4, 5]))
        names, places, things, loose, below = tree.names(0), tree.places(3), tree.things(), tree.loose(), beneath(tree, 1)
        tree.do(("move", 1, "f", 0, "g"))
        tree.do(("make", 0, "n", 9, FILE))
        tree.do(("strike", 0, "n"))
        tree.do(("strike", 2, "f"))
        self.assertEqual(names, {"a": 1, "e": 5, "f": 3, "l": 4})
        self.assertEqual(places, [(0, "f"), (1, "f"), (2, "f")])
        self.assertEqual((things, loose, below), (list(range(9)), [6, 7, 8], [1, 2, 3]))


class TestBeneath(unittest.TestCase):
    def test_itself_and_what_is_reached(self):
        tree = grown()
        told = {thing: beneath(tree, thing) for thing in tree.things()}
        self.assertEqual(told, {0: [0, 1, 2, 3, 4, 5], 1: [1, 2, 3], 2: [2, 3], 3: [3], 4: [4], 5: [5], 6: [6], 7: [7], 8: [8]})

    def test_it_rises_by_numbers_and_links_lead_nowhere(self):
        tree = planted(("make", 0, "a", 1, FILE), ("make", 0, "b", 2, FOLDER), ("make", 0, "c", 3, FOLDER),
                       ("make", 3, "l", 4, ("link", "/")), ("move", 0, "b", 3, "b"), ("move", 0, "a", 2, "a"))
        self.assertEqual(beneath(tree, 3), [1, 2, 3, 4])


class TestAlike(unittest.TestCase):
    def assert_unlike(self, one, other):
        self.assertIs(one == other, False)
        self.assertIs(other == one, False)
        self.assertIs(one != other, True)

    def test_alike(self):
        self.assertEqual(Tree(), Tree())
        self.assertIs(grown() == grown(), True)
        self.assertIs(grown() != grown(), False)

    def test_by_whatever_way(self):
        one, other = grown(), grown()
        one.do(("move", 0, "f", 0, "g"))
        one.do(("move", 0, "g", 0, "f"))
        one.do(("write", 3, 5, "x"))
        one.do(("cut", 3, 5))
        one.do(("mark", 0, 5))
        one.do(("mark", 0, 0))
        self.assertNotEqual(one.turns(0), other.turns(0))
        self.assertEqual(one, other)

    def test_unlike_in_one_thing_alone(self):
        for change in (("write", 3, 0, "J"), ("write", 7, 0, "G"), ("mark", 0, 1), ("mark", 8, 1), ("name", 0, "g", 3),
                       ("strike", 2, "f"), ("move", 0, "f", 0, "g"), ("exchange", 0, "f", 0, "l"), ("make", 0, "n", 9, FILE)):
            with self.subTest(change=change):
                tree = grown()
                tree.do(change)
                self.assert_unlike(tree, grown())

    def test_unlike_kinds_and_paths(self):
        whats = (FOLDER, FILE, ("link", "a"), ("link", "b"))
        for number, what in enumerate(whats):
            for other in whats[number + 1:]:
                self.assert_unlike(planted(("make", 0, "a", 1, what)), planted(("make", 0, "a", 1, other)))

    def test_like_nothing_else(self):
        tree = Tree()
        for thing in NO_NUMBERS + ("Tree(1 things)", {}, [0], 0, 1):
            self.assert_unlike(tree, thing)


class TestTwins(unittest.TestCase):
    def test_twins_go_on_by_themselves(self):
        tree = grown()
        twin = tree.twin()
        self.assertIsNot(twin, tree)
        self.assertIs(type(twin), Tree)
        self.assertEqual(told(twin), told(tree))
        before = told(tree)
        for change in (("make", 2, "n", 9, FILE), ("write", 3, 0, "J"), ("mark", 1, 3), ("move", 0, "l", 1, "l"),
                       ("strike", 0, "e"), ("name", 0, "h", 7), ("exchange", 0, "f", 1, "b"),
                       ("make", 0, "k", 10, ("link", "."))):
            twin.do(change)
            self.assertEqual(told(tree), before)
            self.assertEqual(tree, grown())
            self.assertNotEqual(twin, grown())
        after = told(twin)
        tree.do(("make", 0, "m", 9, FOLDER))
        tree.do(("write", 3, 5, "!"))
        self.assertEqual(told(twin), after)
        self.assertNotEqual(tree, twin)


class TestByChance(unittest.TestCase):
    def test_trees_do_and_tell_as_the_naive_one(self):
        done = refused = 0
        words = {}
        for seed in range(60):
            chance = random.Random(seed)
            tree, naive = Tree(), Naive()
            for _ in range(160):
                change = some_change(chance, naive.last)
                if chance.random() < 0.15:
                    change = ("all", (change, *(some_change(chance, naive.last + 1) for _ in range(chance.randrange(3)))))
                before, can, word = told(tree), tree.can(change), naive.do(change)
                self.assertIs(can, word is None)
                if word is None:
                    self.assertIsNone(tree.do(change))
                    done += 1
                else:
                    with self.assertRaises(NoChange) as caught:
                        tree.do(change)
                    self.assertEqual(caught.exception.word, word, change)
                    self.assertEqual(told(tree), before)
                    words[word] = words.get(word, 0) + 1
                    refused += 1
                self.assertEqual(told(tree), naive.told())
                self.check(tree)
                if len(tree) > 30:
                    break
        self.assertGreater(done, 1000)
        self.assertEqual(sorted(words), ["absent", "full", "kind", "loose", "same", "size", "there", "thing", "within"])

    def check(self, tree):
        """All but the loose things are beneath the root, and what is loose is empty."""
        self.assertEqual(sorted(beneath(tree, ROOT) + tree.loose()), tree.things())
        for thing in tree.things():
            if tree.kind(thing) != "file":
                self.assertLessEqual(len(tree.places(thing)), 1)
            if thing in tree.loose() and tree.kind(thing) == "folder":
                self.assertEqual(tree.names(thing), {})


if __name__ == "__main__":
    unittest.main()
