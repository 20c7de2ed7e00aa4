"""Points 13 and 14: walks, and (c) of point 3."""

import random
import unittest

from onehistory.errors import Fallen, NoRow, NoThing
from onehistory.house import House
from onehistory.rows import tree_at
from onehistory.tree import beneath
from onehistory.walks import Walk, lets_walk
from tests.naive import some_change
from tests.test_roads import some_row
from tests.test_tree import FILE, FOLDER
from tests.things import NO_NUMBERS, ODD

# 0: a 1 (b 2 (c 3), f 4), d 5 (e 6), f 4, l 7 (a); 8 is a loose folder.
ROW = (
    ("make", 0, "a", 1, FOLDER), ("make", 1, "b", 2, FOLDER), ("make", 2, "c", 3, FOLDER), ("make", 0, "f", 4, FILE),
    ("make", 0, "d", 5, FOLDER), ("make", 5, "e", 6, FOLDER), ("name", 1, "f", 4), ("make", 0, "l", 7, ("link", "a")),
    ("make", 0, "x", 8, FOLDER), ("strike", 0, "x"),
)
NOW = len(ROW)
OF_ROOT = ((), 0, NOW, (("a", 1, "folder"), ("d", 5, "folder"), ("f", 4, "file"), ("l", 7, "link")))
OF_A = (("a",), 1, NOW, (("b", 2, "folder"), ("f", 4, "file")))
OF_D = (("d",), 5, NOW, (("e", 6, "folder"),))
OF_B = (("a", "b"), 2, NOW, (("c", 3, "folder"),))
OF_E = (("d", "e"), 6, NOW, ())
OF_C = (("a", "b", "c"), 3, NOW, ())
WHOLE = [OF_ROOT, OF_A, OF_D, OF_B, OF_E, OF_C]


def walked_whole(walk):
    while walk.step():
        pass
    return walk.listings()


class TestWhileNothingTurns(unittest.TestCase):
    def test_step_by_step(self):
        walk = Walk(House(ROW))
        self.assertEqual((walk.is_done(), walk.waiting(), walk.listings(), walk.things()), (False, [0], [], []))
        waiting = [[1, 5], [5, 2], [2, 6], [6, 3], [3], []]
        things = [[1, 4, 5, 7], [1, 2, 4, 5, 7], [1, 2, 4, 5, 6, 7]] + [[1, 2, 3, 4, 5, 6, 7]] * 3
        for number in range(6):
            self.assertIs(walk.step(), number < 5)
            self.assertEqual(walk.waiting(), waiting[number])
            self.assertEqual(walk.listings(), WHOLE[:number + 1])
            self.assertEqual(walk.things(), things[number])
            self.assertIs(walk.is_done(), number == 5)

    def test_behind_the_last(self):
        house = House(ROW)
        walk = Walk(house)
        walked_whole(walk)
        house.make("n", FOLDER)
        for _ in range(3):
            self.assertIs(walk.step(), False)
            self.assertEqual((walk.listings(), walk.waiting(), walk.is_done()), (WHOLE, [], True))

    def test_from_another_folder(self):
        for at, due in (
            (1, [((), 1, NOW, OF_A[3]), (("b",), 2, NOW, OF_B[3]), (("b", "c"), 3, NOW, ())]),
            (3, [((), 3, NOW, ())]),
            (8, [((), 8, NOW, ())]),
        ):
            walk = Walk(House(ROW), at=at)
            self.assertEqual(walk.waiting(), [at])
            self.assertEqual(walked_whole(walk), due)
            self.assertIs(lets_walk(ROW, due, at=at), True)
        self.assertEqual(Walk(House(ROW), at=3).things(), [])

    def test_of_a_tree_at_first(self):
        walk = Walk(house=House(), at=0)
        self.assertIs(walk.step(), False)
        self.assertEqual((walk.listings(), walk.things(), walk.waiting()), ([((), 0, 0, ())], [], []))
        self.assertRaises(TypeError, Walk, House(), 0)

    def test_no_folders(self):
        house = House(ROW)
        for at in NO_NUMBERS + (4, 7, 9, 99):
            with self.assertRaises(NoThing) as caught:
                Walk(house, at=at)
            self.assertIs(caught.exception.thing, at)

    def test_in_its_tree_now(self):
        house = House(ROW)
        house.cut_back(2)
        with self.assertRaises(NoThing):
            Walk(house, at=3)
        house.make("n", FOLDER)
        self.assertEqual(walked_whole(Walk(house, at=9)), [((), 9, NOW + 2, ())])

    def test_what_is_told_is_the_askers_own(self):
        walk = Walk(House(ROW))
        walk.step()
        walk.listings().clear()
        walk.listings().append(None)
        walk.waiting().clear()
        walk.things().append(99)
        self.assertEqual((walk.listings(), walk.waiting(), walk.things()), ([OF_ROOT], [1, 5], [1, 4, 5, 7]))
        self.assertEqual(walked_whole(walk), WHOLE)
        self.assertEqual({type(names) for _, _, _, names in walk.listings()}, {tuple})
        self.assertEqual({type(way) for way, _, _, _ in walk.listings()}, {tuple})


class TestWhileItGoesOn(unittest.TestCase):
    def test_made_and_struck(self):
        house = House(ROW)
        walk = Walk(house)
        walk.step()
        house.make("n", FOLDER)             # beside what was listed: never met
        self.assertEqual(house.make("a/n", FOLDER), 10)
        house.strike("d/e")
        house.strike("d")                   # waits, and is listed though it is loose
        due = [
            OF_ROOT,
            (("a",), 1, NOW + 4, (("b", 2, "folder"), ("f", 4, "file"), ("n", 10, "folder"))),
            (("d",), 5, NOW + 4, ()),
            (("a", "b"), 2, NOW + 4, (("c", 3, "folder"),)),
            (("a", "n"), 10, NOW + 4, ()),
            (("a", "b", "c"), 3, NOW + 4, ()),
        ]
        self.assertEqual(walked_whole(walk), due)
        self.assertEqual(walk.things(), [1, 2, 3, 4, 5, 7, 10])
        self.assertIs(lets_walk(house.row(), due), True)

    def test_moved_ahead_and_named_twice(self):
        house = House(ROW)
        walk = Walk(house)
        walk.step()
        walk.step()
        house.move("a/b", "d/b")
        due = [
            OF_ROOT, OF_A,
            (("d",), 5, NOW + 1, (("b", 2, "folder"), ("e", 6, "folder"))),
            # By the elder way, once.
            (("a", "b"), 2, NOW + 1, (("c", 3, "folder"),)),
            (("d", "e"), 6, NOW + 1, ()),
            (("a", "b", "c"), 3, NOW + 1, ()),
        ]
        self.assertEqual(walked_whole(walk), due)
        self.assertIs(lets_walk(house.row(), due), True)

    def test_moved_behind_it_and_never_named(self):
        house = House(ROW)
        walk = Walk(house)
        walk.step()
        house.move("d/e", "e")
        due = walked_whole(walk)
        self.assertEqual([listing[1] for listing in due], [0, 1, 5, 2, 3])
        self.assertEqual(walk.things(), [1, 2, 3, 4, 5, 7])

    def test_the_beginning_is_never_met_again(self):
        house = House(ROW)
        walk = Walk(house, at=1)
        walk.step()
        walk.step()
        house.move("a/b/c", "c")
        house.move("a", "c/a")
        due = walked_whole(walk)
        self.assertEqual(due[2], (("b", "c"), 3, NOW + 2, (("a", 1, "folder"),)))
        self.assertEqual([listing[1] for listing in due], [1, 2, 3])
        self.assertEqual(walk.things(), [1, 2, 3, 4])
        self.assertIs(lets_walk(house.row(), due, at=1), True)

    def test_each_moment_is_the_houses(self):
        house = House(ROW)
        walk = Walk(house)
        moments = []
        while not walk.is_done():
            house.mark("/", len(moments))
            moments.append(house.moment())
            walk.step()
        self.assertEqual([listing[2] for listing in walk.listings()], moments)
        self.assertIs(lets_walk(house.row(), walk.listings()), True)


class TestFalls(unittest.TestCase):
    def refused(self, walk, since):
        for ask in (walk.step, walk.listings, walk.things):
            with self.assertRaises(Fallen) as caught:
                ask()
            self.assertEqual(caught.exception.since, since)

    def test_amid(self):
        house = House(ROW)
        walk = Walk(house)
        walk.step()
        house.cut_back(NOW)
        self.refused(walk, NOW + 1)
        house.make("n", FILE)
        self.refused(walk, NOW + 2)
        self.assertEqual((walk.is_done(), walk.waiting()), (False, [1, 5]))

    def test_where_all_was_done(self):
        house = House(ROW)
        walk = Walk(house)
        walked_whole(walk)
        house.cut_back(0)
        self.refused(walk, NOW + 1)
        self.assertEqual((walk.is_done(), walk.waiting()), (True, []))

    def test_ahead_of_its_first_step(self):
        house = House(ROW)
        walk = Walk(house, at=1)
        house.cut_back(0)
        self.refused(walk, NOW + 1)

    def test_falls_ahead_of_it(self):
        house = House(ROW)
        house.cut_back(NOW)
        walk = Walk(house)
        self.assertEqual([listing[1] for listing in walked_whole(walk)], [0, 1, 5, 2, 6, 3])


class TestLetsWalk(unittest.TestCase):
    def test_a_whole_listing(self):
        for row in (ROW, list(ROW)):
            self.assertIs(lets_walk(row, list(WHOLE)), True)
        self.assertIs(lets_walk(row=ROW, thing=list(WHOLE), at=0), True)
        self.assertRaises(TypeError, lets_walk, ROW, list(WHOLE), 0)
        self.assertIs(lets_walk((), [((), 0, 0, ())]), True)
        self.assertIs(lets_walk(ROW, [((), 0, 0, ())]), True)

    def test_none_waits_behind_the_last(self):
        for many in range(6):
            self.assertIs(lets_walk(ROW, WHOLE[:many]), False)
        self.assertIs(lets_walk(ROW, WHOLE + [OF_C]), False)
        self.assertIs(lets_walk(ROW, WHOLE + [OF_ROOT]), False)
        self.assertIs(lets_walk(ROW, WHOLE + [None]), False)

    def test_in_another_order(self):
        for number in range(5):
            thing = list(WHOLE)
            thing[number], thing[number + 1] = thing[number + 1], thing[number]
            self.assertIs(lets_walk(ROW, thing), False)
        for number in range(6):
            self.assertIs(lets_walk(ROW, WHOLE[:number] + WHOLE[number + 1:]), False)
            self.assertIs(lets_walk(ROW, WHOLE[:number + 1] + WHOLE[number:]), False)

    def test_from_another_folder(self):
        for at in (1, 2, 5, 8):
            self.assertIs(lets_walk(ROW, list(WHOLE), at=at), False)
        due = walked_whole(Walk(House(ROW), at=1))
        self.assertIs(lets_walk(ROW, due, at=1), True)
        self.assertIs(lets_walk(ROW, due), False)

    def test_no_folder(self):
        for at in (4, 7, 9, 99, 10 ** 29):
            for thing in ([((), at, NOW, ())], [], list(WHOLE), [((), at, 0, ())]):
                self.assertIs(lets_walk(ROW, thing, at=at), False)
        for at in NO_NUMBERS:
            self.assertIs(lets_walk(ROW, [((), at, NOW, ())], at=at), False)
        # At the first listing's moment.
        self.assertIs(lets_walk(ROW, [((), 3, 2, ())], at=3), False)
        self.assertIs(lets_walk(ROW, [((), 3, 3, ())], at=3), True)

    def test_no_row(self):
        for row, number in ((None, None), ("row", None), ({}, None), ([None], 0), (ROW + (("strike", 0, "a"),), NOW)):
            for thing in (list(WHOLE), None, []):
                for at in (0, 99):
                    with self.assertRaises(NoRow) as caught:
                        lets_walk(row, thing, at=at)
                    self.assertEqual(caught.exception.number, number)

    def test_of_anything(self):
        for thing in ODD + ([], (), tuple(WHOLE), [tuple(WHOLE)], dict(enumerate(WHOLE)), iter(WHOLE), "walk", 0,
                            [list(listing) for listing in WHOLE]):
            with self.subTest(thing=thing):
                self.assertIs(lets_walk(ROW, thing), False)
                self.assertIs(lets_walk([], thing), False)
        for number in range(6):
            for odd in ODD + ((), ((),) * 4, (None,) * 4, OF_ROOT[:3], (*OF_ROOT, None)):
                with self.subTest(number=number, odd=odd):
                    self.assertIs(lets_walk(ROW, WHOLE[:number] + [odd] + WHOLE[number + 1:]), False)

    def test_each_place_bent(self):
        """Each single value within a whole listing, put otherwise."""
        for number, listing in enumerate(WHOLE):
            for bent in bendings(listing):
                thing = list(WHOLE)
                thing[number] = bent
                with self.subTest(number=number, bent=bent):
                    self.assertIs(lets_walk(ROW, thing), False)

    def test_numbers_are_whole_ones(self):
        row = [("make", 0, "a", 1, FOLDER)]
        whole = [((), 0, 1, (("a", 1, "folder"),)), (("a",), 1, 1, ())]
        self.assertIs(lets_walk(row, whole), True)
        for odd in (True, 1.0, 1 + 0j):
            for thing in (
                [((), 0, odd, (("a", 1, "folder"),)), whole[1]], [((), 0, 1, (("a", odd, "folder"),)), whole[1]],
                [whole[0], (("a",), odd, 1, ())], [whole[0], (("a",), 1, odd, ())],
            ):
                self.assertIs(lets_walk(row, thing), False)
        for odd in (False, 0.0, 0j):
            self.assertIs(lets_walk(row, [((), odd, 1, (("a", 1, "folder"),)), whole[1]]), False)
            self.assertIs(lets_walk([], [((), 0, odd, ())]), False)

    def test_moments_never_fall(self):
        house = House(ROW)
        house.mark("a", 1)
        row = house.row()
        for moments in ((NOW,) * 6, (NOW,) * 3 + (NOW + 1,) * 3, (NOW + 1,) * 6, (NOW,) * 5 + (NOW + 1,)):
            thing = [(way, folder, moment, names) for (way, folder, _, names), moment in zip(WHOLE, moments)]
            self.assertIs(lets_walk(row, thing), True)
        for moments in ((NOW + 1,) + (NOW,) * 5, (NOW,) * 4 + (NOW + 1, NOW), (NOW,) * 5 + (NOW + 2,), (NOW,) * 5 + (-1,)):
            thing = [(way, folder, moment, names) for (way, folder, _, names), moment in zip(WHOLE, moments)]
            self.assertIs(lets_walk(row, thing), False)
        # A moment beyond the row's end.
        self.assertIs(lets_walk(ROW, [((), 0, NOW + 1, OF_ROOT[3]), *WHOLE[1:]]), False)

    def test_falls_aside(self):
        row = ROW + (("cut back", NOW),)
        thing = [OF_ROOT] + [(way, folder, NOW + 1, names) for way, folder, _, names in WHOLE[1:]]
        self.assertIs(lets_walk(row, thing), True)
        # A folder that waits isn't there any more.
        row = ROW + (("cut back", 2),)
        self.assertIs(lets_walk(row, [OF_ROOT, (("a",), 1, NOW + 1, (("b", 2, "folder"),)), (("d",), 5, NOW + 1, ()),
                                      (("a", "b"), 2, NOW + 1, ())]), False)


def bendings(value):
    """All that come of a value, tuples within one another, by bending it at one place."""
    if isinstance(value, tuple):
        yield list(value)
        yield value + (0,)
        yield value + value[-1:] if value else (((), 0, "file"),)
        if value:
            yield value[1:]
            yield value[:-1]
            yield ()
        for number, one in enumerate(value):
            for bent in bendings(one):
                if bent != one or type(bent) is not type(one):
                    yield value[:number] + (bent,) + value[number + 1:]
        if len(value) > 1:
            yield value[::-1]
    elif isinstance(value, str):
        yield from ("zz", "", None, value.upper(), value.encode(), "file" if value != "file" else "folder")
    else:
        yield from (value + 1, value - 1, float(value), str(value), None, 10 ** 29, -1, (value,), [value])
        if value in (0, 1):
            yield bool(value)


class TestByChance(unittest.TestCase):
    def test_what_a_walk_tells_is_let_and_true(self):
        chance = random.Random(13)
        turned = 0
        for _ in range(150):
            house = House(some_row(chance))
            folders = [thing for thing in house.now().things() if house.now().kind(thing) == "folder"]
            at = chance.choice((0, chance.choice(folders)))
            walk = Walk(house, at=at)
            begin = house.moment()
            while not walk.is_done():
                for _ in range(4):
                    change = some_change(chance, house.now().last())
                    if house.now().can(change):
                        house.change(change)
                self.assertIs(walk.step(), not walk.is_done())
            listings = walk.listings()
            turned += listings[-1][2] > listings[0][2]
            self.assertIs(lets_walk(house.row(), listings, at=at), True)
            self.assertEqual(len({listing[1] for listing in listings}), len(listings))
            for _, folder, moment, names in listings:
                tree = tree_at(house.row(), moment)
                self.assertEqual(names, tuple((name, thing, tree.kind(thing)) for name, thing in tree.names(folder).items()))
            named = {thing for listing in listings for _, thing, _ in listing[3]}
            self.assertEqual(walk.things(), sorted(named))
            self.assertLessEqual(stood(house, at, begin, listings[-1][2]) - {at}, named)
        self.assertGreater(turned, 50)


def stood(house, at, begin, end):
    """What stood all along at its place beneath a folder, under folders that did."""
    trees = [house.tree(moment) for moment in range(begin, end + 1)]
    found = {at}
    waiting = [at]
    while waiting:
        folder = waiting.pop()
        for name, thing in trees[0].names(folder).items():
            if all(tree.names(folder).get(name) == thing for tree in trees) and thing not in found:
                found.add(thing)
                if trees[0].kind(thing) == "folder":
                    waiting.append(thing)
    assert found <= set(beneath(trees[0], at))
    return found


if __name__ == "__main__":
    unittest.main()
