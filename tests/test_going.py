"""Point 9: goings, and (b) of point 3."""

import random
import unittest

from onehistory.errors import Fallen, Fault, NoPath, NoThing
from onehistory.going import Going
from onehistory.house import House
from onehistory.roads import Road, road_of
from tests.naive import some_change
from tests.naive_roads import NaiveGoing
from tests.test_roads import NO_PATHS, some_path, some_row
from tests.test_tree import FILE, FOLDER
from tests.things import NO_NUMBERS

# 0: a 1 (b 2 (c 3 (d 4))), e 5, f 6, l 7 (a/b), t 8 (/e); 9 is a loose folder; 1 has up 10 (..).
ROW = (
    ("make", 0, "a", 1, FOLDER), ("make", 1, "b", 2, FOLDER), ("make", 2, "c", 3, FOLDER), ("make", 3, "d", 4, FOLDER),
    ("make", 0, "e", 5, FOLDER), ("make", 0, "f", 6, FILE), ("make", 0, "l", 7, ("link", "a/b")),
    ("make", 1, "t", 8, ("link", "/e")), ("make", 0, "x", 9, FOLDER), ("strike", 0, "x"),
    ("make", 1, "up", 10, ("link", "..")),
)


def stepped(going, many=1):
    return [going.step() for _ in range(many)]


def to_the_end(going, most=100):
    while going.step():
        most -= 1
        assert most > 0


class TestWhileNothingTurns(unittest.TestCase):
    def test_step_by_step(self):
        house = House(ROW)
        going = Going(house, "a/b/c")
        self.assertEqual((going.is_done(), going.anew(), going.moment(), going.road()), (False, 0, None, None))
        for _ in range(3):
            self.assertIs(going.step(), True)
            self.assertEqual((going.is_done(), going.anew(), going.moment(), going.road()), (False, 0, None, None))
        self.assertIs(going.step(), False)
        self.assertIs(going.is_done(), True)
        self.assertEqual((going.anew(), going.moment()), (0, 11))
        self.assertEqual(going.road(), road_of(house.now(), "a/b/c"))
        self.assertIs(type(going.road()), Road)

    def test_how_many_steps(self):
        # As many as the road has, and one more, that ends it.
        for path, more in (("a", {}), (".", {}), ("/", {"at": 2}), ("l/c", {}), ("l", {"follow": False}), ("..", {"at": 4}),
                           ("a/t/..", {}), ("../../../..", {"at": 3, "held": True}), ("/up/b", {"at": 1, "held": True})):
            with self.subTest(path=path, **more):
                house = House(ROW)
                going = Going(house, path, **more)
                road = road_of(house.now(), path, **more)
                self.assertEqual(stepped(going, len(road)), [True] * len(road))
                self.assertIs(going.is_done(), False)
                self.assertEqual(stepped(going, 3), [False] * 3)
                self.assertEqual((going.road(), going.anew()), (road, 0))

    def test_a_path_without_steps_ends_at_once(self):
        house = House(ROW)
        going = Going(house, ".", at=5)
        house.change(("make", 5, "n", 11, FILE))
        self.assertIs(going.step(), False)
        self.assertEqual((going.moment(), going.anew(), going.road().found()), (12, 0, 5))

    def test_a_fault_ends_it_in_the_same_step(self):
        for path, more, many, word, gone in (
            ("zz", {}, 0, "absent", ()), ("a/zz/b", {}, 1, "absent", ((0, "a", 1),)), ("f/..", {}, 1, "kind", ((0, "f", 6),)),
            ("..", {"at": 9}, 0, "loose", ()),
        ):
            with self.subTest(path=path):
                going = Going(House(ROW), path, **more)
                self.assertEqual(stepped(going, many + 1), [True] * many + [False])
                self.assertEqual((going.is_done(), going.moment(), going.anew()), (True, 11, 0))
                for _ in range(2):
                    with self.assertRaises(Fault) as caught:
                        going.road()
                    fault = caught.exception
                    self.assertEqual((fault.word, fault.path, fault.gone), (word, path, gone))
                self.assertIs(going.step(), False)

    def test_the_fifth_link(self):
        house = House([("make", 0, "s", 1, ("link", "s"))])
        going = Going(house, "s")
        self.assertEqual(stepped(going, 5), [True] * 4 + [False])
        with self.assertRaises(Fault) as caught:
            going.road()
        self.assertEqual((caught.exception.word, caught.exception.gone), ("loops", ((0, "s", 1),) * 5))


class TestWhatTurns(unittest.TestCase):
    def test_a_folder_on_the_road(self):
        house = House(ROW)
        going = Going(house, "a/b/c")
        stepped(going, 2)
        house.change(("move", 1, "b", 5, "b"))
        self.assertEqual(stepped(going), [True])
        self.assertEqual(going.anew(), 0)
        # The step that would end it begins it anew, and goes no step.
        self.assertEqual(stepped(going), [True])
        self.assertEqual((going.anew(), going.is_done(), going.moment(), going.road()), (1, False, None, None))
        self.assertEqual(stepped(going, 2), [True, False])
        self.assertEqual((going.anew(), going.moment()), (1, 12))
        with self.assertRaises(Fault) as caught:
            going.road()
        self.assertEqual((caught.exception.word, caught.exception.gone), ("absent", ((0, "a", 1),)))

    def test_where_the_same_is_found_again(self):
        house = House(ROW)
        going = Going(house, "a/b")
        stepped(going, 1)
        house.do_all([("move", 0, "a", 0, "n"), ("move", 0, "n", 0, "a")])
        self.assertEqual(stepped(going, 2), [True, True])
        self.assertEqual(going.anew(), 1)
        self.assertEqual(stepped(going, 3), [True, True, False])
        self.assertEqual((going.road().steps(), going.anew()), ([(0, "a", 1), (1, "b", 2)], 1))

    def test_any_turn_of_a_folder_that_was_looked_at(self):
        house = House(ROW)
        going = Going(house, "a/b")
        stepped(going, 2)
        house.make("n", FILE)
        self.assertEqual(stepped(going, 4), [True, True, True, False])
        self.assertEqual((going.anew(), going.moment()), (1, 12))

    def test_one_that_was_not_looked_at(self):
        house = House(ROW)
        going = Going(house, "a/b")
        stepped(going, 2)
        # What is found isn't looked at, nor what is beside the road, nor are marks and texts.
        house.make("a/b/n", FILE)
        house.make("e/n", FILE)
        house.mark("a", 7)
        handle = house.grasp("f")
        house.write(handle, 0, "text")
        self.assertEqual(stepped(going), [False])
        self.assertEqual((going.anew(), going.moment(), going.road().found()), (0, 15, 2))

    def test_what_turned_ahead_of_the_look(self):
        house = House(ROW)
        going = Going(house, "a/b/c")
        house.make("n", FILE)
        stepped(going, 1)
        house.make("a/n", FILE)
        house.strike("a/b/c/d")
        stepped(going, 1)
        house.make("a/b/n", FILE)
        self.assertEqual(stepped(going, 2), [True, False])
        self.assertEqual((going.anew(), going.moment()), (0, 15))

    def test_what_turned_ahead_of_this_beginning(self):
        house = House(ROW)
        going = Going(house, "a/b")
        stepped(going, 2)
        house.make("n", FILE)
        stepped(going, 1)
        self.assertEqual(going.anew(), 1)
        # Ahead of this beginning's looks.
        house.make("m", FILE)
        self.assertEqual(stepped(going, 3), [True, True, False])
        self.assertEqual(going.anew(), 1)

    def test_since_it_was_first_looked_at(self):
        house = House(ROW)
        going = Going(house, "a/../a/..")
        stepped(going, 2)
        house.make("n", FILE)
        # The root is looked at once more behind that; it counts that it turned since it was first looked at.
        self.assertEqual(stepped(going, 3), [True] * 3)
        self.assertEqual(going.anew(), 1)

    def test_how_often_it_began_anew(self):
        house = House(ROW)
        going = Going(house, "a")
        for many in range(1, 6):
            stepped(going, 1)
            house.make(f"n{'abcdef'[many]}", FILE)
            self.assertEqual(stepped(going), [True])
            self.assertEqual(going.anew(), many)
        self.assertEqual(stepped(going, 2), [True, False])
        self.assertEqual((going.anew(), going.moment()), (5, 16))

    def test_a_road_that_comes_to_be(self):
        house = House()
        going = Going(house, "a/b")
        house.make("a", FOLDER)
        stepped(going, 1)
        house.make("a/b", FILE)
        self.assertEqual(stepped(going, 2), [True, False])
        self.assertEqual((going.road().found(), going.anew()), (2, 0))

    def test_a_fault_that_is_none_any_more(self):
        house = House(ROW)
        going = Going(house, "a/n/..")
        stepped(going, 1)
        # `absent` is met in a folder that is looked at only then; the root has turned.
        house.do_all([("make", 0, "n", 11, FOLDER)])
        self.assertEqual(stepped(going), [True])
        self.assertEqual(going.anew(), 1)
        house.make("a/n", FOLDER)
        self.assertEqual(stepped(going, 4), [True] * 3 + [False])
        self.assertEqual(going.road().found(), 1)


class TestUpward(unittest.TestCase):
    def test_the_folder_of_a_place_that_was_gone_up_by(self):
        house = House(ROW)
        going = Going(house, "..", at=2)
        stepped(going, 1)
        house.make("a/n", FILE)
        self.assertEqual(stepped(going), [True])
        self.assertEqual(going.anew(), 1)
        self.assertEqual(stepped(going, 2), [True, False])
        self.assertEqual(going.road().steps(), [(2, "..", 1)])

    def test_the_folder_that_was_gone_up_from_is_not_looked_at(self):
        house = House(ROW)
        going = Going(house, "..", at=2)
        stepped(going, 1)
        house.make("a/b/n", FILE)
        house.make("n", FILE)
        self.assertEqual(stepped(going), [False])
        self.assertEqual(going.anew(), 0)

    def test_moved_away_while_it_is_gone_up(self):
        house = House(ROW)
        going = Going(house, "../..", at=2)
        stepped(going, 1)
        house.move("a/b", "e/b")
        self.assertEqual(stepped(going, 2), [True, True])
        self.assertEqual(going.anew(), 1)
        to_the_end(going)
        self.assertEqual((going.road().steps(), going.anew()), ([(2, "..", 5), (5, "..", 0)], 1))

    def test_back_by_the_road_is_no_look(self):
        house = House(ROW)
        going = Going(house, "../a/..", at=1)
        # Up by the place looks at the root, the name too; the last step leads back by the road.
        stepped(going, 3)
        house.make("a/n", FILE)
        self.assertEqual(stepped(going), [False])
        self.assertEqual(going.anew(), 0)

    def test_staying_is_no_look(self):
        for more in ({}, {"at": 1, "held": True}):
            house = House(ROW)
            going = Going(house, "..", **more)
            stepped(going, 1)
            house.make("n", FILE)
            house.make("a/n", FILE)
            self.assertEqual(stepped(going), [False])
            self.assertEqual(going.anew(), 0)

    def test_loose_meanwhile(self):
        house = House(ROW)
        going = Going(house, "d/../..", at=3)
        stepped(going, 2)
        house.strike("a/b/c/d")
        house.strike("a/b/c")
        # A fault, but the folder in which it stood has turned since it was looked at.
        self.assertEqual(stepped(going), [True])
        self.assertEqual(going.anew(), 1)
        self.assertEqual(stepped(going), [False])
        with self.assertRaises(Fault) as caught:
            going.road()
        self.assertEqual((caught.exception.word, caught.exception.gone), ("absent", ()))

    def test_by_a_link_to_the_top(self):
        house = House(ROW)
        going = Going(house, "t/..", at=1)
        stepped(going, 3)
        house.make("e/n", FILE)
        self.assertEqual(stepped(going), [False])
        self.assertEqual((going.road().steps(), going.anew()), ([(1, "t", 8), (0, "e", 5), (5, "..", 0)], 0))


class TestBehindTheEnd(unittest.TestCase):
    def test_a_step_does_nothing(self):
        house = House(ROW)
        going = Going(house, "a/b")
        to_the_end(going)
        road = going.road()
        house.move("a/b", "e/b")
        for _ in range(3):
            self.assertIs(going.step(), False)
            self.assertEqual((going.is_done(), going.moment(), going.anew(), going.road()), (True, 11, 0, road))

    def test_a_fault_stays(self):
        house = House(ROW)
        going = Going(house, "n")
        self.assertIs(going.step(), False)
        house.make("n", FILE)
        self.assertIs(going.step(), False)
        self.assertRaises(Fault, going.road)
        self.assertEqual((going.moment(), going.anew()), (11, 0))

    def test_what_is_told_is_the_askers_own(self):
        going = Going(House(ROW), "a/b")
        to_the_end(going)
        going.road().steps().clear()
        self.assertEqual(going.road().steps(), [(0, "a", 1), (1, "b", 2)])


class TestFalls(unittest.TestCase):
    def since(self, ask):
        with self.assertRaises(Fallen) as caught:
            ask()
        return caught.exception.since

    def test_amid(self):
        house = House(ROW)
        going = Going(house, "a/b")
        stepped(going, 1)
        house.cut_back(11)
        self.assertEqual((self.since(going.step), self.since(going.road)), (12, 12))
        # Entries behind the fall count.
        house.make("n", FILE)
        self.assertEqual((self.since(going.step), self.since(going.road)), (13, 13))
        house.cut_back(3)
        self.assertEqual((self.since(going.step), self.since(going.road)), (14, 14))
        self.assertEqual((going.is_done(), going.anew(), going.moment()), (False, 0, None))

    def test_ahead_of_its_first_step(self):
        house = House(ROW)
        going = Going(house, ".")
        house.cut_back(0)
        self.assertEqual((self.since(going.step), self.since(going.road)), (12, 12))

    def test_behind_the_end(self):
        for path in ("a/b", "zz"):
            house = House(ROW)
            going = Going(house, path)
            to_the_end(going)
            house.cut_back(11)
            self.assertEqual((self.since(going.step), self.since(going.road)), (12, 12))
            self.assertEqual((going.is_done(), going.anew(), going.moment()), (True, 0, 11))

    def test_falls_ahead_of_it(self):
        house = House(ROW + (("cut back", 11),))
        house.cut_back(12)
        going = Going(house, "a/b")
        to_the_end(going)
        self.assertEqual((going.road().found(), going.moment()), (2, 13))

    def test_of_another_house(self):
        house = House(ROW)
        twin = house.twin()
        going = Going(house, "a")
        twin.cut_back(0)
        to_the_end(going)
        self.assertEqual(going.road().found(), 1)


class TestWrong(unittest.TestCase):
    def test_no_paths(self):
        house = House(ROW)
        for path in NO_PATHS:
            for at in (0, 6, None, 99):
                with self.assertRaises(NoPath) as caught:
                    Going(house, path, at=at)
                self.assertIs(caught.exception.thing, path)

    def test_no_folders(self):
        house = House(ROW)
        for at in NO_NUMBERS + (6, 7, 99):
            for path in ("a", "/", "zz"):
                with self.assertRaises(NoThing) as caught:
                    Going(house, path, at=at)
                self.assertIs(caught.exception.thing, at)

    def test_by_the_names_of_the_interface(self):
        going = Going(house=House(ROW), path="/b", at=1, held=True, follow=False)
        to_the_end(going)
        self.assertEqual(going.road().steps(), [(1, "b", 2)])
        self.assertRaises(TypeError, Going, House(), "a", 0)


def turn_somewhere(chance, house):
    for _ in range(30):
        change = some_change(chance, house.now().last())
        if change[0] not in ("write", "cut", "mark") and house.now().can(change):
            house.change(change)
            return


def some_road(chance, tree):
    """A path and what is asked with it; of several the one with the longest road."""
    folders = [thing for thing in tree.things() if tree.kind(thing) == "folder"]
    asked = []
    for _ in range(12):
        path, at, held, follow = (some_path(chance, 5), chance.choice(folders), chance.random() < 0.4, chance.random() < 0.6)
        try:
            many = len(road_of(tree, path, at=at, held=held, follow=follow))
        except Fault as fault:
            many = len(fault.gone)
        asked.append((many, path, at, held, follow))
    return max(asked)[1:]


class TestByChance(unittest.TestCase):
    def told(self, going):
        try:
            road = going.road()
        except Fault as fault:
            return fault.word, fault.path, fault.gone
        return None if road is None else (road.steps(), road.found())

    def test_against_a_second_telling(self):
        chance = random.Random(9)
        many, faults = 0, 0
        for _ in range(200):
            house = House(some_row(chance))
            asked = some_road(chance, house.now())
            path, at, held, follow = asked
            going = Going(house, path, at=at, held=held, follow=follow)
            naive = NaiveGoing(house, *asked)
            for _ in range(40):
                if chance.random() < 0.3:
                    turn_somewhere(chance, house)
                self.assertIs(going.step(), naive.step())
                self.assertEqual((going.anew(), going.moment(), self.told(going)), (naive.anew, naive.moment, naive.end))
                self.assertIs(going.is_done(), naive.end is not None)
            if not going.is_done():
                continue
            many += going.anew()
            tree = house.tree(going.moment())
            try:
                due = road_of(tree, path, at=at, held=held, follow=follow)
                self.assertEqual(going.road(), due)
            except Fault as fault:
                faults += 1
                self.assertEqual(self.told(going), (fault.word, fault.path, fault.gone))
        self.assertGreater(many, 40)
        self.assertGreater(faults, 40)


if __name__ == "__main__":
    unittest.main()
