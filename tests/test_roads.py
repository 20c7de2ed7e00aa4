"""Point 8: roads and places."""

import random
import unittest

from onehistory.errors import Fault, NoPath, NoThing
from onehistory.roads import Road, is_road, place_of, road_of
from onehistory.rows import History, tree_at
from onehistory.tree import Tree
from tests.naive import some_change, told
from tests.naive_roads import Lost, naive_place, naive_road
from tests.test_tree import FILE, FOLDER, planted
from tests.things import NO_NUMBERS, ODD


def link(path):
    return ("link", path)


def woods():
    """0: a (1: b (2: c 3, g 4, up 6, abs 8, f 22), top 7, down 23), f 4 and the links; 20, 21 are a loose folder, a loose file."""
    return planted(
        ("make", 0, "a", 1, FOLDER), ("make", 1, "b", 2, FOLDER), ("make", 2, "c", 3, FOLDER),
        ("make", 0, "f", 4, FILE), ("make", 0, "la", 5, link("a/b")), ("make", 2, "up", 6, link("../..")),
        ("make", 1, "top", 7, link("/")), ("make", 2, "abs", 8, link("/a")), ("make", 0, "lf", 9, link("f")),
        ("make", 0, "self", 10, link("self")), ("make", 0, "p", 11, link("q")), ("make", 0, "q", 12, link("p")),
        ("make", 0, "gone", 13, link("zz")), ("make", 0, "dot", 14, link(".")), ("make", 0, "one", 15, link("a")),
        ("make", 0, "two", 16, link("one")), ("make", 0, "three", 17, link("two")),
        ("make", 0, "four", 18, link("three")), ("make", 0, "five", 19, link("four")),
        ("make", 0, "x", 20, FOLDER), ("strike", 0, "x"), ("make", 0, "x", 21, FILE), ("strike", 0, "x"),
        ("make", 2, "f", 22, FILE), ("make", 1, "down", 23, link("b/c")), ("name", 2, "g", 4),
    )


# Each row: the path, further arguments, the steps, what is found.
ROADS = (
    # names, from the root and from other folders, from the top and not
    ("a", {}, [(0, "a", 1)], 1),
    ("a/b/c", {}, [(0, "a", 1), (1, "b", 2), (2, "c", 3)], 3),
    ("/a/b", {}, [(0, "a", 1), (1, "b", 2)], 2),
    ("f", {}, [(0, "f", 4)], 4),
    ("b/g", {"at": 1}, [(1, "b", 2), (2, "g", 4)], 4),
    ("/f", {"at": 3}, [(0, "f", 4)], 4),
    ("a/b/f", {"at": 0}, [(0, "a", 1), (1, "b", 2), (2, "f", 22)], 22),
    # no steps: the folder where the road begins
    (".", {}, [], 0),
    ("/", {}, [], 0),
    (".", {"at": 2}, [], 2),
    ("/", {"at": 2}, [], 0),
    ("/", {"at": 2, "held": True}, [], 2),
    (".", {"at": 20}, [], 20),
    ("/", {"at": 20, "held": True}, [], 20),
    # held: from the top is from at
    ("/b", {"at": 1, "held": True}, [(1, "b", 2)], 2),
    ("b", {"at": 1, "held": True}, [(1, "b", 2)], 2),
    ("/a", {"at": 0, "held": True}, [(0, "a", 1)], 1),
    # upward behind names
    ("a/..", {}, [(0, "a", 1), (1, "..", 0)], 0),
    ("a/b/../..", {}, [(0, "a", 1), (1, "b", 2), (2, "..", 1), (1, "..", 0)], 0),
    ("b/../b", {"at": 1}, [(1, "b", 2), (2, "..", 1), (1, "b", 2)], 2),
    # upward at the beginning: by the place
    ("..", {"at": 1}, [(1, "..", 0)], 0),
    ("../..", {"at": 3}, [(3, "..", 2), (2, "..", 1)], 1),
    ("../../../..", {"at": 3}, [(3, "..", 2), (2, "..", 1), (1, "..", 0), (0, "..", 0)], 0),
    ("b/../..", {"at": 1}, [(1, "b", 2), (2, "..", 1), (1, "..", 0)], 0),
    # at the root it stays
    ("..", {}, [(0, "..", 0)], 0),
    ("../../a", {}, [(0, "..", 0), (0, "..", 0), (0, "a", 1)], 1),
    ("/..", {"at": 2}, [(0, "..", 0)], 0),
    ("a/../..", {}, [(0, "a", 1), (1, "..", 0), (0, "..", 0)], 0),
    # held it stays at its beginning
    ("..", {"at": 2, "held": True}, [(2, "..", 2)], 2),
    ("/../c", {"at": 2, "held": True}, [(2, "..", 2), (2, "c", 3)], 3),
    ("b/../../b", {"at": 1, "held": True}, [(1, "b", 2), (2, "..", 1), (1, "..", 1), (1, "b", 2)], 2),
    ("..", {"at": 20, "held": True}, [(20, "..", 20)], 20),
    # links to folders, with steps left and without
    ("la", {}, [(0, "la", 5), (0, "a", 1), (1, "b", 2)], 2),
    ("la/c", {}, [(0, "la", 5), (0, "a", 1), (1, "b", 2), (2, "c", 3)], 3),
    ("la", {"follow": False}, [(0, "la", 5)], 5),
    ("la/c", {"follow": False}, [(0, "la", 5), (0, "a", 1), (1, "b", 2), (2, "c", 3)], 3),
    ("la/up", {"follow": False}, [(0, "la", 5), (0, "a", 1), (1, "b", 2), (2, "up", 6)], 6),
    ("down", {"at": 1}, [(1, "down", 23), (1, "b", 2), (2, "c", 3)], 3),
    # upward behind a link: back as the road came
    ("la/..", {}, [(0, "la", 5), (0, "a", 1), (1, "b", 2), (2, "..", 1)], 1),
    ("a/down/../..", {}, [(0, "a", 1), (1, "down", 23), (1, "b", 2), (2, "c", 3), (3, "..", 2), (2, "..", 1)], 1),
    ("a/down/../../..", {}, [(0, "a", 1), (1, "down", 23), (1, "b", 2), (2, "c", 3), (3, "..", 2), (2, "..", 1),
                             (1, "..", 0)], 0),
    # links upward
    ("la/up", {}, [(0, "la", 5), (0, "a", 1), (1, "b", 2), (2, "up", 6), (2, "..", 1), (1, "..", 0)], 0),
    ("up/f", {"at": 2}, [(2, "up", 6), (2, "..", 1), (1, "..", 0), (0, "f", 4)], 4),
    ("up/f", {"at": 2, "held": True}, [(2, "up", 6), (2, "..", 2), (2, "..", 2), (2, "f", 22)], 22),
    # links to the top; behind them the road came from none
    ("a/top", {}, [(0, "a", 1), (1, "top", 7)], 0),
    ("a/top/..", {}, [(0, "a", 1), (1, "top", 7), (0, "..", 0)], 0),
    ("b/abs/b", {"at": 1}, [(1, "b", 2), (2, "abs", 8), (0, "a", 1), (1, "b", 2)], 2),
    ("b/abs/../..", {"at": 1}, [(1, "b", 2), (2, "abs", 8), (0, "a", 1), (1, "..", 0), (0, "..", 0)], 0),
    ("top/b", {"at": 1, "held": True}, [(1, "top", 7), (1, "b", 2)], 2),
    ("top/../b", {"at": 1, "held": True}, [(1, "top", 7), (1, "..", 1), (1, "b", 2)], 2),
    ("b/../top", {"at": 1, "held": True}, [(1, "b", 2), (2, "..", 1), (1, "top", 7)], 1),
    ("a/top/..", {"held": True}, [(0, "a", 1), (1, "top", 7), (0, "..", 0)], 0),
    # links to files, to nothing, to here
    ("lf", {}, [(0, "lf", 9), (0, "f", 4)], 4),
    ("lf", {"follow": False}, [(0, "lf", 9)], 9),
    ("gone", {"follow": False}, [(0, "gone", 13)], 13),
    ("dot", {}, [(0, "dot", 14)], 0),
    ("dot/f", {}, [(0, "dot", 14), (0, "f", 4)], 4),
    ("dot", {"follow": False}, [(0, "dot", 14)], 14),
    ("dot/dot/dot/dot", {}, [(0, "dot", 14)] * 4, 0),
    ("dot/dot/dot/dot/dot", {"follow": False}, [(0, "dot", 14)] * 5, 14),
    # the fourth link of one road, whether amid or last
    ("four", {}, [(0, "four", 18), (0, "three", 17), (0, "two", 16), (0, "one", 15), (0, "a", 1)], 1),
    ("four/b", {}, [(0, "four", 18), (0, "three", 17), (0, "two", 16), (0, "one", 15), (0, "a", 1), (1, "b", 2)], 2),
    ("self", {"follow": False}, [(0, "self", 10)], 10),
    ("p", {"follow": False}, [(0, "p", 11)], 11),
    # a link that isn't gone along is none of the four
    ("four/top", {"follow": False}, [(0, "four", 18), (0, "three", 17), (0, "two", 16), (0, "one", 15), (0, "a", 1),
                                     (1, "top", 7)], 7),
)

# Each row: the path, further arguments, the word, the steps so far.
FAULTS = (
    ("zz", {}, "absent", ()),
    ("a/zz", {}, "absent", ((0, "a", 1),)),
    ("a/zz/b", {}, "absent", ((0, "a", 1),)),
    ("/b", {"at": 1}, "absent", ()),
    ("/a", {"at": 1, "held": True}, "absent", ()),
    ("a", {"at": 20}, "absent", ()),
    ("gone", {}, "absent", ((0, "gone", 13),)),
    ("gone/a", {"follow": False}, "absent", ((0, "gone", 13),)),
    ("a/../a/x", {}, "absent", ((0, "a", 1), (1, "..", 0), (0, "a", 1))),
    # a step from what is no folder
    ("f/a", {}, "kind", ((0, "f", 4),)),
    ("f/..", {}, "kind", ((0, "f", 4),)),
    ("f/zz/zz", {}, "kind", ((0, "f", 4),)),
    ("lf/a", {}, "kind", ((0, "lf", 9), (0, "f", 4))),
    ("lf/..", {"follow": False}, "kind", ((0, "lf", 9), (0, "f", 4))),
    ("b/g/c", {"at": 1}, "kind", ((1, "b", 2), (2, "g", 4))),
    # a fifth link is gone along
    ("five", {}, "loops", ((0, "five", 19), (0, "four", 18), (0, "three", 17), (0, "two", 16), (0, "one", 15))),
    ("five/b", {"follow": False}, "loops",
     ((0, "five", 19), (0, "four", 18), (0, "three", 17), (0, "two", 16), (0, "one", 15))),
    ("self", {}, "loops", ((0, "self", 10),) * 5),
    ("self/a", {"follow": False}, "loops", ((0, "self", 10),) * 5),
    ("p", {}, "loops", ((0, "p", 11), (0, "q", 12), (0, "p", 11), (0, "q", 12), (0, "p", 11))),
    ("dot/dot/dot/dot/dot", {}, "loops", ((0, "dot", 14),) * 5),
    ("four/top", {}, "loops", ((0, "four", 18), (0, "three", 17), (0, "two", 16), (0, "one", 15), (0, "a", 1),
                               (1, "top", 7))),
    ("dot/dot/dot/dot/gone", {}, "loops", ((0, "dot", 14),) * 4 + ((0, "gone", 13),)),
    # upward from a loose one
    ("..", {"at": 20}, "loose", ()),
    ("../a", {"at": 20}, "loose", ()),
)

# Each row: the path, further arguments, the place.
PLACES = (
    ("a", {}, (0, "a")),
    ("new", {}, (0, "new")),
    ("/a/new", {}, (1, "new")),
    ("b/new", {"at": 1}, (2, "new")),
    ("/f", {"at": 1}, (0, "f")),
    ("/f", {"at": 1, "held": True}, (1, "f")),
    ("../new", {"at": 1}, (0, "new")),
    ("../new", {"at": 1, "held": True}, (1, "new")),
    ("a/b/../f", {}, (1, "f")),
    # a link ahead of the last step is gone along, the last one isn't looked at
    ("la/new", {}, (2, "new")),
    ("la", {}, (0, "la")),
    ("self", {}, (0, "self")),
    ("a/top/new", {}, (0, "new")),
    ("dot/new", {}, (0, "new")),
    ("four/top", {}, (1, "top")),
    ("four/new", {}, (1, "new")),
    ("x", {"at": 20}, (20, "x")),
    ("x", {"at": 3, "held": True}, (3, "x")),
)
PLACE_FAULTS = (
    (".", {}, "form", ()),
    ("/", {}, "form", ()),
    ("..", {}, "form", ()),
    ("a/..", {}, "form", ()),
    ("zz/..", {}, "form", ()),
    ("f/zz/..", {}, "form", ()),
    ("self/..", {}, "form", ()),
    ("..", {"at": 20}, "form", ()),
    ("/..", {"at": 2, "held": True}, "form", ()),
    ("zz/new", {}, "absent", ()),
    ("a/zz/new", {}, "absent", ((0, "a", 1),)),
    ("gone/new", {}, "absent", ((0, "gone", 13),)),
    ("f/new", {}, "kind", ((0, "f", 4),)),
    ("lf/new", {}, "kind", ((0, "lf", 9), (0, "f", 4))),
    ("f/new/more", {}, "kind", ((0, "f", 4),)),
    ("f/../new", {}, "kind", ((0, "f", 4),)),
    ("five/new", {}, "loops", ((0, "five", 19), (0, "four", 18), (0, "three", 17), (0, "two", 16), (0, "one", 15))),
    ("self/new", {}, "loops", ((0, "self", 10),) * 5),
    ("../new", {"at": 20}, "loose", ()),
)
# None of these is a path.
NO_PATHS = ODD + ("", "//", "a/", "/a/", "a//b", "A", "a/.", "./a", "abcdefghi", "a/b/c/d/e/f/g/h/i", "...", ["a"], ("a",))


class TestRoads(unittest.TestCase):
    def fault(self, ask, path, more):
        with self.assertRaises(Fault) as caught:
            ask(woods(), path, **more)
        fault = caught.exception
        self.assertIs(type(fault.gone), tuple)
        self.assertEqual(fault.path, path)
        return fault.word, fault.gone

    def test_roads(self):
        tree = woods()
        for path, more, steps, found in ROADS:
            with self.subTest(path=path, **more):
                road = road_of(tree, path, **more)
                self.assertEqual((road.steps(), road.found()), (steps, found))
                self.assertIs(is_road(tree, path, road, **more), True)

    def test_faults(self):
        for path, more, word, gone in FAULTS:
            with self.subTest(path=path, **more):
                self.assertEqual(self.fault(road_of, path, more), (word, gone))
                self.assertIs(is_road(woods(), path, Road(gone, 0), **more), False)

    def test_places(self):
        tree = woods()
        for path, more, place in PLACES:
            with self.subTest(path=path, **more):
                self.assertEqual(place_of(tree, path, **more), place)

    def test_faults_of_places(self):
        for path, more, word, gone in PLACE_FAULTS:
            with self.subTest(path=path, **more):
                self.assertEqual(self.fault(place_of, path, more), (word, gone))

    def test_no_paths(self):
        tree = woods()
        for ask in (road_of, place_of):
            for path in NO_PATHS:
                for at in (0, 3, 99, 4, None, True):
                    with self.subTest(ask=ask, path=path, at=at), self.assertRaises(NoPath) as caught:
                        ask(tree, path, at=at)
                    self.assertIs(caught.exception.thing, path)

    def test_no_folders(self):
        tree = woods()
        for ask in (road_of, place_of):
            # What at refuses goes ahead of all faults, also where the path is from the top.
            for path in ("a", "/a", "/", ".", "..", "zz", "f/a", "self"):
                for at in NO_NUMBERS + (4, 5, 21, 24, 99, 10 ** 29):
                    for held in (False, True):
                        with self.subTest(ask=ask, path=path, at=at), self.assertRaises(NoThing) as caught:
                            ask(tree, path, at=at, held=held)
                        self.assertIs(caught.exception.thing, at)

    def test_by_the_names_of_the_interface(self):
        tree = woods()
        road = road_of(tree=tree, path="/b", at=1, held=True, follow=False)
        self.assertEqual(road.found(), 2)
        self.assertEqual(place_of(tree=tree, path="/b", at=1, held=True), (1, "b"))
        self.assertIs(is_road(tree=tree, path="/b", thing=road, at=1, held=True, follow=False), True)
        for wrong in (lambda: road_of(tree, "a", 0), lambda: place_of(tree, "a", 0), lambda: is_road(tree, "a", road, 0)):
            self.assertRaises(TypeError, wrong)

    def test_a_road_is_that_of_its_moment(self):
        tree = woods()
        road = road_of(tree, "la/c")
        tree.do(("move", 1, "b", 0, "b"))
        self.assertEqual((road.steps()[2], road.found()), ((1, "b", 2), 3))
        with self.assertRaises(Fault) as caught:
            road_of(tree, "la/c")
        self.assertEqual(caught.exception.gone, ((0, "la", 5), (0, "a", 1)))
        self.assertIs(is_road(tree, "la/c", road), False)

    def test_nothing_is_changed(self):
        tree = woods()
        before = told(tree)
        for path, more, _, _ in ROADS + FAULTS:
            try:
                road_of(tree, path, **more)
                place_of(tree, path, at=more.get("at", 0))
            except Fault:
                pass
        self.assertEqual(told(tree), before)


class TestRoad(unittest.TestCase):
    def test_length_and_repr(self):
        tree = woods()
        road = road_of(tree, "a/..")
        self.assertEqual((len(road), repr(road)), (2, "Road([(0, 'a', 1), (1, '..', 0)], 0)"))
        self.assertEqual((len(road_of(tree, ".", at=3)), repr(road_of(tree, ".", at=3))), (0, "Road([], 3)"))
        self.assertEqual(repr(road_of(tree, "f")), "Road([(0, 'f', 4)], 4)")
        self.assertIs(type(road), Road)

    def test_steps_spoilt_by_the_asker(self):
        road = road_of(woods(), "a/b")
        steps = road.steps()
        self.assertIs(type(steps), list)
        self.assertEqual({type(step) for step in steps}, {tuple})
        steps[0] = (9, "x", 9)
        steps.clear()
        self.assertEqual(road.steps(), [(0, "a", 1), (1, "b", 2)])
        self.assertIsNot(road.steps(), road.steps())
        self.assertEqual((len(road), repr(road)), (2, "Road([(0, 'a', 1), (1, 'b', 2)], 2)"))

    def test_alike_where_steps_and_found_are(self):
        tree, other = woods(), woods()
        other.do(("write", 4, 0, "x"))
        self.assertEqual(road_of(tree, "a/b"), road_of(other, "a/b"))
        self.assertEqual(road_of(tree, "a/b"), road_of(tree, "/a/b", at=3))
        self.assertEqual(road_of(tree, "self", follow=False), road_of(tree, "self", follow=False))
        self.assertFalse(road_of(tree, "a/b") != road_of(tree, "a/b"))
        for one, two in (("a/b", "a"), ("a/..", "."), ("a", "one"), (".", ".."), ("f", "lf")):
            self.assertNotEqual(road_of(tree, one), road_of(tree, two))
        self.assertNotEqual(road_of(tree, ".", at=1), road_of(tree, ".", at=2))
        # The same steps, but the link is gone along in one of them.
        self.assertNotEqual(road_of(tree, "dot"), road_of(tree, "dot", follow=False))

    def test_like_nothing_else(self):
        road = road_of(woods(), "a")
        for thing in ODD + ([(0, "a", 1)], ((0, "a", 1),), ([(0, "a", 1)], 1), repr(road), 1, "a", woods()):
            self.assertFalse(road == thing)
            self.assertTrue(road != thing)


class TestIsRoad(unittest.TestCase):
    def test_of_anything(self):
        tree = woods()
        for thing in ODD + ([(0, "a", 1)], ((0, "a", 1),), ([(0, "a", 1)], 1), "Road([(0, 'a', 1)], 1)", 1, "a", tree):
            with self.subTest(thing=thing):
                self.assertIs(is_road(tree, "a", thing), False)
                self.assertIs(is_road(tree, "zz", thing), False)
                self.assertIs(is_road(tree, None, thing, at=None), False)

    def test_another_road(self):
        tree = woods()
        self.assertIs(is_road(tree, "a", road_of(tree, "a")), True)
        self.assertIs(is_road(tree, "a", road_of(tree, "/a", at=2)), True)
        self.assertIs(is_road(tree, "a/b", road_of(tree, "a")), False)
        self.assertIs(is_road(tree, "la", road_of(tree, "a/b")), False)
        self.assertIs(is_road(tree, "b", road_of(tree, "b", at=1)), False)
        self.assertIs(is_road(tree, "b", road_of(tree, "b", at=1), at=1), True)
        self.assertIs(is_road(tree, "/b", road_of(tree, "b", at=1), at=1, held=True), True)
        self.assertIs(is_road(tree, "la", road_of(tree, "la", follow=False)), False)
        self.assertIs(is_road(tree, "la", road_of(tree, "la", follow=False), follow=False), True)
        self.assertIs(is_road(tree, "dot", road_of(tree, "dot", follow=False)), False)

    def test_of_what_is_no_path_or_folder(self):
        tree = woods()
        road = road_of(tree, "a")
        for path in NO_PATHS:
            self.assertIs(is_road(tree, path, road), False)
        for at in NO_NUMBERS + (4, 5, 99):
            self.assertIs(is_road(tree, "/a", road, at=at), False)

    def test_where_there_is_none(self):
        tree = woods()
        road = road_of(tree, ".")
        for path in ("zz", "f/a", "self", "gone"):
            self.assertIs(is_road(tree, path, road), False)
        self.assertIs(is_road(tree, "..", road_of(tree, ".", at=20), at=20), False)


class TestByChance(unittest.TestCase):
    def asked(self, ask, tree, *more, **words):
        try:
            return ask(tree, *more, **words)
        except Fault as fault:
            self.assertEqual(fault.path, more[0])
            return fault.word, fault.gone
        except Lost as lost:
            return lost.word, lost.gone

    def test_against_a_second_telling(self):
        chance = random.Random(8)
        words = {}
        for _ in range(150):
            tree = some_tree(chance)
            folders = [thing for thing in tree.things() if tree.kind(thing) == "folder"]
            for _ in range(25):
                path = some_path(chance)
                at = chance.choice([thing for thing in folders if thing in tree.loose()] or folders)
                if chance.random() < 0.9:
                    at = chance.choice(folders)
                held, follow = chance.random() < 0.4, chance.random() < 0.6
                road = self.asked(road_of, tree, path, at=at, held=held, follow=follow)
                due = self.asked(naive_road, tree, path, at=at, held=held, follow=follow)
                if isinstance(road, Road):
                    self.assertIs(is_road(tree, path, road, at=at, held=held, follow=follow), True)
                    road = road.steps(), road.found()
                self.assertEqual(road, due, (path, at, held, follow))
                word = due[0] if isinstance(due[0], str) else "road"
                words[word] = words.get(word, 0) + 1
                self.assertEqual(self.asked(place_of, tree, path, at=at, held=held),
                                 self.asked(naive_place, tree, path, at=at, held=held))
        self.assertEqual(set(words), {"road", "absent", "kind", "loops", "loose"})
        self.assertGreater(min(words.values()), 15, words)

    def test_from_a_held_folder_only_what_is_beneath_is_found(self):
        chance = random.Random(3)
        for _ in range(150):
            tree = some_tree(chance)
            for at in tree.things():
                if tree.kind(at) != "folder":
                    continue
                for _ in range(10):
                    try:
                        road = road_of(tree, some_path(chance), at=at, held=True)
                    except Fault:
                        continue
                    met = {at}
                    for folder in tree.things():
                        met |= {thing for one in list(met) if tree.kind(one) == "folder"
                                for thing in tree.names(one).values()}
                    self.assertLessEqual({road.found(), *(step[2] for step in road.steps())}, met)


def some_path(chance, most=6):
    steps = [chance.choice(("a", "b", "c", "a", "b", "c", "..")) for _ in range(chance.randrange(most))]
    top = "/" if chance.random() < 0.25 else ""
    return top + "/".join(steps) or "."


def some_row(chance):
    """A row of many links, among them such that lead on and such that lead in rings; 1 is a loose folder."""
    history = History([("make", 0, "a", 1, FOLDER), ("strike", 0, "a")])
    for _ in range(chance.randrange(60)):
        tree = history.at(len(history))
        change = some_change(chance, tree.last())
        if chance.random() < 0.5:
            folders = [thing for thing in tree.things() if tree.kind(thing) == "folder" and thing != 1]
            what = chance.choice((FOLDER, FOLDER, FILE, link(some_path(chance, 4)), link(some_path(chance, 3))))
            change = ("make", chance.choice(folders), chance.choice("abc"), tree.last() + 1, what)
        if tree.can(change):
            history.put(change)
    return history.row()


def some_tree(chance):
    return tree_at(some_row(chance))


class TestATreeAtFirst(unittest.TestCase):
    def test_the_root_alone(self):
        tree = Tree()
        self.assertEqual(road_of(tree, "/").found(), 0)
        self.assertEqual(road_of(tree, "..").steps(), [(0, "..", 0)])
        self.assertEqual(place_of(tree, "a"), (0, "a"))
        self.assertRaises(Fault, road_of, tree, "a")


if __name__ == "__main__":
    unittest.main()
