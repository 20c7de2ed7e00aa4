"""Point 16: watches, and (d) of point 3."""

import random
import unittest

from onehistory.errors import Fallen, NoRoom, NoThing
from onehistory.house import House
from onehistory.views import differences, notes_between, put_on, view_of
from onehistory.watches import ROOM, Watch
from tests.naive import some_change
from tests.test_tree import FILE, FOLDER
from tests.test_views import A, B, C, D, F, NOW, ROW, some_row_with_cuts
from tests.things import NO_NUMBERS, ODD


def marked(*moments):
    """Notes of a root that is marked again and again, by the number of the moment."""
    return [(moment, ("turned", (), (0, "folder", None, moment, 0))) for moment in moments]


def mark_root(house, many):
    for _ in range(many):
        house.mark("/", house.moment() + 1)


class TestAtFirst(unittest.TestCase):
    def test_what_it_saw(self):
        house = House(ROW)
        watch = Watch(house)
        due = {(): (0, "folder", None, 0, 0), ("a",): A, ("a", "b"): B, ("a", "b", "c"): C, ("a", "g"): F, ("d",): D, ("f",): F}
        self.assertEqual(list(watch.first().items()), list(due.items()))
        self.assertEqual(watch.seen(), due)
        self.assertEqual((watch.notes(), watch.taken(), watch.look()), ([], [], []))
        self.assertEqual((watch.is_full(), watch.noted_to()), (False, NOW))
        house.strike("d")
        self.assertEqual(watch.first(), due)
        del due["d",]
        self.assertEqual(list(watch.seen().items()), list(due.items()))

    def test_of_other_things(self):
        house = House(ROW)
        self.assertEqual(Watch(house, 1).first(), {(): A, ("b",): B, ("b", "c"): C, ("g",): F})
        self.assertEqual(Watch(house=house, thing=1, beneath=False, room=1).first(), {(): A, ("b",): B, ("g",): F})
        self.assertEqual(Watch(house, 5).first(), {(): F})
        self.assertEqual(Watch(House()).first(), {(): (0, "folder", None, 0, 0)})
        self.assertRaises(TypeError, Watch, house, 0, True)

    def test_refusals(self):
        house = House(ROW)
        self.assertEqual((type(ROOM), ROOM), (int, 20))
        for room in (1, 2, 199, 200):
            self.assertIs(Watch(house, room=room).is_full(), False)
        for room in ODD + (0, 201, -20, True, False, 20.0, "20", [20], (20,), 10 ** 29):
            with self.assertRaises(NoRoom) as caught:
                Watch(house, room=room)
            self.assertIs(caught.exception.thing, room)
        for thing in NO_NUMBERS + (6, 99):
            for room in (20, 0, None):
                with self.assertRaises(NoThing) as caught:
                    Watch(house, thing, room=room)
                self.assertIs(caught.exception.thing, thing)


class TestNotes(unittest.TestCase):
    def test_entry_by_entry(self):
        house = House(ROW)
        watch = Watch(house)
        house.make("d/n", FILE)
        due = [(8, ("shown", ("d", "n"), (((), (6, "file", "", 0, 1)),)))]
        self.assertEqual((watch.notes(), watch.notes(), watch.noted_to()), (due, due, 8))
        house.move("d", "a/d")
        house.strike("a/d/n")
        due += [
            (9, ("gone", ("d",))), (9, ("shown", ("a", "d"), (((), D), (("n",), (6, "file", "", 0, 1))))),
            (10, ("gone", ("a", "d", "n"))),
        ]
        self.assertEqual((watch.notes(), watch.is_full(), watch.noted_to()), (due, False, 10))

    def test_what_isnt_seen_is_none(self):
        house = House(ROW)
        beneath_a, of_a = Watch(house, 1), Watch(house, 1, beneath=False)
        house.make("n", FILE)
        house.mark("a/b/c", 4)
        house.mark("a/b", 5)
        self.assertEqual(beneath_a.notes(), [
            (9, ("turned", ("b", "c"), (3, "folder", None, 4, 1))), (10, ("turned", ("b",), (2, "folder", None, 5, 1))),
        ])
        self.assertEqual(of_a.notes(), [(10, ("turned", ("b",), (2, "folder", None, 5, 1)))])
        self.assertEqual((beneath_a.noted_to(), of_a.noted_to()), (10, 10))
        self.assertEqual(of_a.seen(), view_of(house.now(), 1, beneath=False))

    def test_taken(self):
        house = House(ROW)
        watch = Watch(house)
        mark_root(house, 2)
        self.assertEqual(watch.taken(), marked(8, 9))
        self.assertEqual((watch.notes(), watch.taken(), watch.noted_to()), ([], [], 9))
        mark_root(house, 1)
        self.assertEqual((watch.notes(), watch.taken(), watch.notes()), (marked(10), marked(10), []))

    def test_looked_where_it_isnt_full(self):
        house = House(ROW)
        watch = Watch(house)
        mark_root(house, 3)
        self.assertEqual(watch.look(), marked(8, 9, 10))
        self.assertEqual((watch.look(), watch.notes(), watch.is_full(), watch.noted_to()), ([], [], False, 10))
        mark_root(house, 1)
        self.assertEqual(watch.notes(), marked(11))

    def test_a_thing_that_is_struck(self):
        house = House(ROW)
        watch = Watch(house, 4)
        house.strike("d")
        self.assertEqual(watch.notes(), [(8, ("turned", (), (4, "folder", None, 0, 0)))])


class TestFull(unittest.TestCase):
    def test_by_one_entry_more(self):
        for room in (1, 2, 20, 200):
            house = House()
            watch = Watch(house, room=room)
            mark_root(house, room)
            self.assertEqual((watch.is_full(), watch.noted_to(), watch.notes()),
                             (False, room, marked(*range(1, room + 1))))
            mark_root(house, 1)
            self.assertEqual((watch.is_full(), watch.noted_to(), watch.notes()),
                             (True, room, marked(*range(1, room + 1))))

    def test_twenty_where_it_is_left_out(self):
        house = House()
        watch = Watch(house)
        mark_root(house, 20)
        self.assertIs(watch.is_full(), False)
        mark_root(house, 1)
        self.assertIs(watch.is_full(), True)

    def test_by_an_entry_of_several(self):
        house = House(ROW)
        watch = Watch(house, room=3)
        house.mark("d", 1)
        house.mark("d", 2)
        house.move("d", "e")            # two notes: gone, shown
        house.mark("/", 9)              # there would be room for this one
        due = [(8, ("turned", ("d",), (4, "folder", None, 1, 1))), (9, ("turned", ("d",), (4, "folder", None, 2, 1)))]
        self.assertEqual((watch.is_full(), watch.noted_to(), watch.notes()), (True, 9, due))
        now = (4, "folder", None, 2, 1)
        self.assertEqual(watch.look(), due + [
            (11, ("gone", ("d",))), (11, ("shown", ("e",), (((), now),))),
            (11, ("turned", (), (0, "folder", None, 9, 0))),
        ])

    def test_by_its_first_entry(self):
        house = House(ROW)
        watch = Watch(house, room=1)
        house.write(house.grasp("f"), 0, "new")     # two ways of one file
        self.assertEqual((watch.is_full(), watch.noted_to(), watch.notes()), (True, NOW, []))
        self.assertEqual(watch.seen()["f",], (5, "file", "new", 0, 2))

    def test_entries_without_notes_are_noted_where_there_is_no_room(self):
        house = House(ROW)
        watch = Watch(house, 1, room=1)
        house.mark("a", 1)
        for name in ("x", "y", "z"):
            house.make(name, FILE)
        self.assertEqual((watch.is_full(), watch.noted_to()), (False, NOW + 4))
        house.mark("a", 2)
        house.make("w", FILE)
        self.assertEqual((watch.is_full(), watch.noted_to()), (True, NOW + 4))

    def test_notes_nothing_more_till_it_is_looked(self):
        house = House()
        watch = Watch(house, room=2)
        mark_root(house, 3)
        self.assertEqual(watch.taken(), marked(1, 2))
        for _ in range(3):
            self.assertEqual((watch.is_full(), watch.noted_to(), watch.notes(), watch.taken()), (True, 2, [], []))
            mark_root(house, 1)
        self.assertEqual(watch.seen(), {(): (0, "folder", None, 6, 0)})
        # Just what lies between, not entry by entry.
        self.assertEqual(watch.look(), marked(6))
        self.assertEqual((watch.is_full(), watch.noted_to(), watch.notes()), (False, 6, []))
        mark_root(house, 2)
        self.assertEqual((watch.notes(), watch.is_full(), watch.noted_to()), (marked(7, 8), False, 8))
        mark_root(house, 1)
        self.assertEqual((watch.notes(), watch.is_full(), watch.noted_to()), (marked(7, 8), True, 8))

    def test_taken_in_time_it_isnt_full(self):
        house = House()
        watch = Watch(house, room=2)
        for number in range(1, 9, 2):
            mark_root(house, 2)
            self.assertEqual((watch.taken(), watch.is_full()), (marked(number, number + 1), False))

    def test_what_was_undone_meanwhile_isnt_told(self):
        house = House(ROW)
        watch = Watch(house, room=1)
        house.mark("d", 1)
        house.make("n", FOLDER)
        house.strike("n")
        house.make("m", FOLDER)
        self.assertIs(watch.is_full(), True)
        self.assertEqual(watch.look(), [
            (8, ("turned", ("d",), (4, "folder", None, 1, 1))), (11, ("shown", ("m",), (((), (7, "folder", None, 0, 1)),))),
        ])

    def test_full_and_all_as_it_was(self):
        house = House(ROW)
        watch = Watch(house, room=1)
        house.move("d", "e")
        house.move("e", "d")
        self.assertEqual((watch.is_full(), watch.look(), watch.is_full(), watch.noted_to()), (True, [], False, NOW + 2))


class TestFalls(unittest.TestCase):
    def refused(self, watch, since):
        for ask in (watch.notes, watch.taken, watch.look, watch.is_full, watch.noted_to, watch.seen):
            with self.assertRaises(Fallen) as caught:
                ask()
            self.assertEqual(caught.exception.since, since)

    def test_all_but_what_it_saw_at_first(self):
        for room in (1, 20):
            house = House(ROW)
            watch = Watch(house, 1, room=room)
            due = watch.first()
            house.mark("a", 1)
            house.mark("a", 2)
            self.assertIs(watch.is_full(), room == 1)
            house.cut_back(NOW + 2)
            self.refused(watch, NOW + 3)
            house.mark("a", 3)
            self.refused(watch, NOW + 4)
            self.assertEqual(watch.first(), due)
            house.cut_back(0)
            self.refused(watch, NOW + 5)
            self.assertEqual(watch.first(), due)

    def test_falls_ahead_of_it(self):
        house = House(ROW)
        house.cut_back(4)
        watch = Watch(house)
        self.assertEqual(watch.first(), watch.seen())
        mark_root(house, 1)
        self.assertEqual(watch.notes(), marked(NOW + 2))
        # In the row of which a house was made, too.
        watch = Watch(House(house.row()))
        self.assertEqual((watch.notes(), watch.noted_to()), ([], NOW + 2))


class TestTheAskersOwn(unittest.TestCase):
    def test_told_lists_and_dicts(self):
        house = House(ROW)
        watch = Watch(house, room=2)
        mark_root(house, 2)
        first, seen = watch.first(), watch.seen()
        for told in (watch.first(), watch.seen(), watch.notes()):
            told.clear()
        self.assertEqual((watch.first(), watch.seen(), watch.notes()), (first, seen, marked(8, 9)))
        told = watch.taken()
        mark_root(house, 1)
        self.assertEqual((told, watch.notes()), (marked(8, 9), marked(10)))
        told.append(None)
        self.assertEqual(watch.look(), marked(10))
        self.assertEqual(first[()], (0, "folder", None, 0, 0))
        self.assertEqual({type(what) for what in (watch.first(), watch.seen())}, {dict})
        self.assertEqual({type(what) for what in (watch.notes(), watch.taken(), watch.look())}, {list})

    def test_two_watches_of_one_house(self):
        house = House(ROW)
        one, other = Watch(house), Watch(house, room=1)
        mark_root(house, 2)
        self.assertEqual((one.look(), other.is_full(), other.notes()), (marked(8, 9), True, marked(8)))
        self.assertEqual((one.notes(), other.look()), ([], marked(8, 9)))


class Eager:
    """A watch that is told of each entry as it is done, put together from point 15 alone."""

    def __init__(self, house, thing, whole, room):
        self.house, self.thing, self.whole, self.room = house, thing, whole, room
        self.kept, self.full, self.to = [], False, house.moment()

    def done(self):
        """An entry was done."""
        moment = self.house.moment()
        notes = notes_between(self.house.row(), self.thing, moment - 1, moment, beneath=self.whole)
        self.full = self.full or len(self.kept) + len(notes) > self.room
        if not self.full:
            self.kept += notes
            self.to = moment

    def taken(self):
        told, self.kept = self.kept, []
        return told

    def look(self):
        told = self.taken()
        views = [view_of(self.house.tree(moment), self.thing, beneath=self.whole) for moment in (self.to, None)]
        told += [(self.house.moment(), difference) for difference in differences(*views)]
        self.full, self.to = False, self.house.moment()
        return told


class TestByChance(unittest.TestCase):
    def test_against_eager_ones(self):
        chance = random.Random(16)
        filled = 0
        for _ in range(60):
            house = House(some_row_with_cuts(chance, 15))
            thing = chance.choice([0, 0, chance.choice(house.now().things())])
            whole, room = chance.random() < 0.7, chance.choice((1, 2, 4, 20))
            watch, eager = Watch(house, thing, beneath=whole, room=room), Eager(house, thing, whole, room)
            told = []
            for _ in range(60):
                change = some_change(chance, house.now().last())
                if house.now().can(change):
                    house.change(change)
                    eager.done()
                if chance.random() < 0.1:
                    self.assertEqual(watch.notes(), eager.kept)
                    self.assertEqual((watch.is_full(), watch.noted_to()), (eager.full, eager.to))
                    filled += eager.full
                if chance.random() < 0.1:
                    taken = watch.taken()
                    self.assertEqual(taken, eager.taken())
                    told += taken
                if chance.random() < 0.05:
                    looked = watch.look()
                    self.assertEqual(looked, eager.look())
                    told += looked
            # Put on what it saw at first, its notes are what it sees at its last note's moment.
            told += watch.notes()
            seen = view_of(house.tree(watch.noted_to()), thing, beneath=whole)
            self.assertEqual(put_on(watch.first(), told), seen)
            told = told[:len(told) - len(watch.notes())] + watch.look()
            self.assertEqual(put_on(watch.first(), told), watch.seen())
        self.assertGreater(filled, 20)


if __name__ == "__main__":
    unittest.main()
