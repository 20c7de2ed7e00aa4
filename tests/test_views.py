"""Point 15: views, their differences, notes, and (d) of point 3 as far as notes go."""

import random
import unittest

from onehistory.errors import NoMoment, NoRow, NoThing
from onehistory.house import House
from onehistory.rows import History, tree_at
from onehistory.tree import beneath
from onehistory.views import differences, notes_between, put_on, view_of
from tests.naive import some_change
from tests.test_tree import FILE, FOLDER, grown
from tests.things import NO_NUMBERS

WHOLE = {
    (): (0, "folder", None, 0, 0),
    ("a",): (1, "folder", None, 0, 1),
    ("a", "b"): (2, "folder", None, 0, 1),
    ("a", "b", "f"): (3, "file", "hello", 0, 3),
    ("a", "f"): (3, "file", "hello", 0, 3),
    ("e",): (5, "folder", None, 0, 1),
    ("f",): (3, "file", "hello", 0, 3),
    ("l",): (4, "link", "/a", 0, 1),
}
# Folders a 1 (b 2 (c 3)), d 4, a file f 5 of two names with a text.
ROW = (
    ("make", 0, "a", 1, FOLDER), ("make", 1, "b", 2, FOLDER), ("make", 2, "c", 3, FOLDER), ("make", 0, "d", 4, FOLDER),
    ("make", 0, "f", 5, FILE), ("name", 1, "g", 5), ("write", 5, 0, "old"),
)
NOW = len(ROW)
A, B, C = (1, "folder", None, 0, 1), (2, "folder", None, 0, 1), (3, "folder", None, 0, 1)
D, F = (4, "folder", None, 0, 1), (5, "file", "old", 0, 2)


def behind(*changes, thing=0, whole=True):
    """The differences of the views ahead of some changes and behind them."""
    house = House(ROW)
    ahead = view_of(house.now(), thing, beneath=whole)
    for change in changes:
        house.change(change)
    return differences(ahead, view_of(house.now(), thing, beneath=whole))


class TestViewOf(unittest.TestCase):
    def same(self, view, due):
        self.assertIs(type(view), dict)
        self.assertEqual(list(view.items()), list(due.items()))
        for way, what in view.items():
            self.assertEqual((type(way), type(what), len(what)), (tuple, tuple, 5))

    def test_of_the_root(self):
        self.same(view_of(grown(), 0), WHOLE)
        self.same(view_of(tree=grown(), thing=0, beneath=True), WHOLE)
        self.assertRaises(TypeError, view_of, grown(), 0, True)

    def test_of_folders(self):
        self.same(view_of(grown(), 1), {
            (): WHOLE["a",], ("b",): WHOLE["a", "b"], ("b", "f"): WHOLE["f",], ("f",): WHOLE["f",],
        })
        self.same(view_of(grown(), 5), {(): WHOLE["e",]})

    def test_of_files_and_links(self):
        for whole in (True, False):
            self.same(view_of(grown(), 3, beneath=whole), {(): WHOLE["f",]})
            self.same(view_of(grown(), 4, beneath=whole), {(): WHOLE["l",]})

    def test_of_loose_things(self):
        for whole in (True, False):
            self.same(view_of(grown(), 6, beneath=whole), {(): (6, "folder", None, 0, 0)})
            self.same(view_of(grown(), 7, beneath=whole), {(): (7, "file", "gone", 0, 0)})
            self.same(view_of(grown(), 8, beneath=whole), {(): (8, "link", "..", 0, 0)})

    def test_of_none_and_one_name(self):
        self.same(view_of(grown(), 0, beneath=False), {way: what for way, what in WHOLE.items() if len(way) < 2})
        self.same(view_of(grown(), 1, beneath=False), {
            (): WHOLE["a",], ("b",): WHOLE["a", "b"], ("f",): WHOLE["f",],
        })

    def test_marks_texts_and_many(self):
        tree = grown()
        for change in (("mark", 0, 999), ("mark", 3, 7), ("cut", 3, 0), ("strike", 0, "f"), ("mark", 4, 1)):
            tree.do(change)
        view = view_of(tree, 0)
        self.assertEqual(view[()], (0, "folder", None, 999, 0))
        self.assertEqual(view["a", "f"], (3, "file", "", 7, 2))
        self.assertEqual(view["l",], (4, "link", "/a", 1, 1))
        self.assertNotIn(("f",), view)

    def test_ways_of_many_names(self):
        tree = tree_at([("make", number, "a", number + 1, FOLDER) for number in range(30)])
        self.same(view_of(tree, 0), {
            ("a",) * number: (number, "folder", None, 0, int(number > 0)) for number in range(31)
        })

    def test_keys_sorted(self):
        tree = tree_at([("make", 0, name, number, FOLDER) for number, name in enumerate(("c", "b", "bb", "a"), start=1)]
                       + [("make", 2, "z", 5, FILE)])
        self.assertEqual(list(view_of(tree, 0)), [(), ("a",), ("b",), ("b", "z"), ("bb",), ("c",)])

    def test_no_things(self):
        for whole in (True, False):
            for thing in NO_NUMBERS + (9, 99):
                with self.assertRaises(NoThing) as caught:
                    view_of(grown(), thing, beneath=whole)
                self.assertIs(caught.exception.thing, thing)

    def test_the_askers_own(self):
        tree = grown()
        view_of(tree, 0).clear()
        self.same(view_of(tree, 0), WHOLE)


class TestDifferences(unittest.TestCase):
    def test_none(self):
        self.assertEqual(differences(WHOLE, dict(WHOLE)), [])
        self.assertEqual(differences(one=WHOLE, other=dict(reversed(WHOLE.items()))), [])

    def test_gone(self):
        self.assertEqual(behind(("strike", 0, "d")), [("gone", ("d",))])
        self.assertEqual(behind(("strike", 2, "c")), [("gone", ("a", "b", "c"))])
        self.assertEqual(behind(("strike", 2, "c"), thing=1), [("gone", ("b", "c"))])

    def test_gone_at_the_uppermost_way_alone(self):
        told = behind(("move", 0, "a", 4, "a"), thing=0, whole=False)
        self.assertEqual(told, [("gone", ("a",))])
        # Of one more name, a file's other way turns.
        self.assertEqual(behind(("strike", 1, "g")), [
            ("gone", ("a", "g")), ("turned", ("f",), (5, "file", "old", 0, 1)),
        ])
        self.assertEqual(behind(("strike", 1, "g"), ("strike", 2, "c"), ("strike", 1, "b"), ("strike", 0, "a"))[:-1],
                         [("gone", ("a",))])

    def test_shown(self):
        self.assertEqual(behind(("make", 4, "n", 6, ("link", ".."))), [
            ("shown", ("d", "n"), (((), (6, "link", "..", 0, 1)),)),
        ])
        told = behind(("make", 4, "n", 6, FOLDER), ("make", 6, "z", 7, FILE), ("make", 6, "y", 8, FOLDER),
                      ("make", 8, "x", 9, FILE), ("mark", 8, 5))
        self.assertEqual(told, [("shown", ("d", "n"), (
            ((), (6, "folder", None, 0, 1)), (("y",), (8, "folder", None, 5, 1)),
            (("y", "x"), (9, "file", "", 0, 1)), (("z",), (7, "file", "", 0, 1)),
        ))])
        self.assertIs(type(told[0][2]), tuple)

    def test_moved_with_all_beneath(self):
        self.assertEqual(behind(("move", 1, "b", 4, "e")), [
            ("gone", ("a", "b")), ("shown", ("d", "e"), (((), B), (("c",), C))),
        ])
        self.assertEqual(behind(("move", 1, "b", 4, "e"), thing=4), [("shown", ("e",), (((), B), (("c",), C)))])

    def test_another_thing_at_the_same_way(self):
        # With the same thing beneath it: which isn't told by itself, nor turned.
        told = behind(("exchange", 0, "a", 0, "d"), ("move", 1, "b", 4, "b"), ("write", 5, 0, "N"))
        self.assertEqual(told, [
            ("gone", ("a",)), ("gone", ("d",)),
            ("shown", ("a",), (((), D), (("b",), B), (("b", "c"), C))),
            ("shown", ("d",), (((), A), (("g",), (5, "file", "Nld", 0, 2)))),
            ("turned", ("f",), (5, "file", "Nld", 0, 2)),
        ])

    def test_turned(self):
        self.assertEqual(behind(("mark", 0, 3)), [("turned", (), (0, "folder", None, 3, 0))])
        self.assertEqual(behind(("mark", 2, 3)), [("turned", ("a", "b"), (2, "folder", None, 3, 1))])
        new = (5, "file", "new", 0, 2)
        self.assertEqual(behind(("write", 5, 0, "new")), [("turned", ("a", "g"), new), ("turned", ("f",), new)])
        self.assertEqual(behind(("cut", 5, 3), ("write", 5, 1, "l")), [])
        self.assertEqual(behind(("cut", 5, 0), thing=5), [("turned", (), (5, "file", "", 0, 2))])

    def test_moved_beneath_with_a_turn(self):
        self.assertEqual(behind(("move", 1, "b", 0, "b"), ("mark", 3, 9)), [
            ("gone", ("a", "b")), ("shown", ("b",), (((), B), (("c",), (3, "folder", None, 9, 1)))),
        ])

    def test_words_in_their_order(self):
        told = behind(("strike", 0, "d"), ("make", 0, "b", 6, FOLDER), ("mark", 0, 1), ("mark", 3, 1), ("strike", 2, "c"))
        self.assertEqual(told, [
            ("gone", ("a", "b", "c")), ("gone", ("d",)), ("shown", ("b",), (((), (6, "folder", None, 0, 1)),)),
            ("turned", (), (0, "folder", None, 1, 0)),
        ])

    def test_of_another_thing_altogether(self):
        one, other = {(): A, ("b",): B}, {(): D}
        self.assertEqual(differences(one, other), [("gone", ()), ("shown", (), (((), D),))])
        self.assertEqual(differences(other, one), [("gone", ()), ("shown", (), (((), A), (("b",), B)))])

    def test_of_any_order_of_keys(self):
        house = House(ROW)
        ahead = view_of(house.now(), 0)
        house.move("a/b", "d/e")
        house.mark("f", 5)
        after = view_of(house.now(), 0)
        due = differences(ahead, after)
        for one in (ahead, dict(reversed(ahead.items()))):
            for other in (after, dict(reversed(after.items()))):
                self.assertEqual(differences(one, other), due)

    def test_nothing_handed_in_is_changed(self):
        one, other = dict(WHOLE), {way: what for way, what in WHOLE.items() if len(way) < 2}
        differences(one, other).clear()
        self.assertEqual(one, WHOLE)
        self.assertEqual(len(other), 5)
        self.assertEqual(differences(one, other), [("gone", ("a", "b")), ("gone", ("a", "f"))])


class TestPutOn(unittest.TestCase):
    def test_each_word(self):
        view = view_of(tree_at(ROW), 0)
        told = put_on(view, [(8, ("gone", ("a",)))])
        self.assertEqual(list(told.items()), [((), (0, "folder", None, 0, 0)), (("d",), D), (("f",), F)])
        told = put_on(view=told, notes=[(9, ("shown", ("d", "a"), (((), A), (("g",), F))))])
        self.assertEqual(list(told), [(), ("d",), ("d", "a"), ("d", "a", "g"), ("f",)])
        self.assertEqual(told["d", "a", "g"], F)
        told = put_on(told, [(9, ("turned", ("d",), C)), (9, ("turned", ("d",), D))])
        self.assertEqual(told["d",], D)

    def test_none(self):
        self.assertEqual(put_on(WHOLE, []), WHOLE)
        told = put_on(WHOLE, [])
        told.clear()
        self.assertEqual(len(WHOLE), 8)

    def test_gone_of_alike_beginnings(self):
        view = {(): D, ("a",): A, ("a", "b"): B, ("aa",): C, ("b", "a"): F}
        self.assertEqual(list(put_on(view, [(1, ("gone", ("a",)))])), [(), ("aa",), ("b", "a")])
        self.assertEqual(put_on(view, [(1, ("gone", ()))]), {})

    def test_one_behind_the_other(self):
        row = ROW + (("move", 1, "b", 4, "e"), ("mark", 2, 1), ("make", 2, "n", 6, FILE), ("strike", 2, "c"))
        notes = notes_between(row, 0, 0, len(row))
        for many in range(len(row) + 1):
            told = put_on(view_of(tree_at(row, 0), 0), [note for note in notes if note[0] <= many])
            self.assertEqual(list(told.items()), list(view_of(tree_at(row, many), 0).items()))

    def test_nothing_handed_in_is_changed(self):
        view, notes = dict(WHOLE), [(1, ("gone", ("a",))), (1, ("shown", ("b",), (((), B),))), (2, ("turned", (), A))]
        put_on(view, notes)
        self.assertEqual((view, len(notes)), (WHOLE, 3))

    def test_keys_sorted(self):
        view = dict(reversed(WHOLE.items()))
        self.assertEqual(list(put_on(view, [])), list(WHOLE))
        self.assertEqual(list(view), list(reversed(WHOLE)))


class TestNotesBetween(unittest.TestCase):
    def test_changes(self):
        self.assertEqual(notes_between(ROW, 0, 3, NOW), [
            (4, ("shown", ("d",), (((), D),))),
            (5, ("shown", ("f",), (((), (5, "file", "", 0, 1)),))),
            (6, ("shown", ("a", "g"), (((), (5, "file", "", 0, 2)),))),
            (6, ("turned", ("f",), (5, "file", "", 0, 2))),
            (7, ("turned", ("a", "g"), F)), (7, ("turned", ("f",), F)),
        ])
        self.assertEqual(notes_between(list(ROW), 1, 4, NOW), [
            (6, ("shown", ("g",), (((), (5, "file", "", 0, 2)),))), (7, ("turned", ("g",), F)),
        ])
        self.assertEqual(notes_between(row=ROW, thing=1, start=1, end=3, beneath=False), [
            (2, ("shown", ("b",), (((), B),))),
        ])
        self.assertRaises(TypeError, notes_between, ROW, 1, 1, 3, False)

    def test_alls(self):
        row = ROW + (("all", (("strike", 2, "c"), ("mark", 2, 1), ("make", 2, "c", 6, FOLDER))),)
        self.assertEqual(notes_between(row, 2, NOW, NOW + 1), [
            (8, ("gone", ("c",))), (8, ("shown", ("c",), (((), (6, "folder", None, 0, 1)),))),
            (8, ("turned", (), (2, "folder", None, 1, 1))),
        ])
        # What an all does and undoes isn't told.
        row = ROW + (("all", (("mark", 2, 1), ("mark", 2, 0), ("make", 0, "n", 6, FILE), ("strike", 0, "n"))),)
        self.assertEqual(notes_between(row, 0, NOW, NOW + 1), [])

    def test_cuts_back(self):
        row = ROW + (("cut back", 4), ("mark", 4, 2))
        self.assertEqual(notes_between(row, 0, NOW, NOW + 2), [
            (8, ("gone", ("a", "g"))), (8, ("gone", ("f",))), (9, ("turned", ("d",), (4, "folder", None, 2, 1))),
        ])
        self.assertEqual(notes_between(row, 0, 4, NOW + 1, beneath=False)[-1], (8, ("gone", ("f",))))

    def test_moments_exchanged_and_alike(self):
        for start, end in ((3, 3), (4, 3), (NOW, 0), (NOW, NOW), (0, 0)):
            self.assertEqual(notes_between(ROW, 0, start, end), [])
        self.assertEqual(notes_between(ROW, 5, NOW, 0), [])
        for start, end in ((0, 0), (4, 4), (4, 0)):
            with self.assertRaises(NoThing) as caught:
                notes_between(ROW, 5, start, end)
            self.assertEqual(caught.exception.thing, 5)

    def test_not_there_at_some_moment(self):
        row = ROW + (("cut back", 4), ("mark", 0, 2), ("make", 0, "n", 6, FILE))
        for start, end in ((NOW, NOW + 1), (NOW, NOW + 3), (5, NOW + 2), (0, NOW), (4, 5), (NOW + 1, 3)):
            with self.assertRaises(NoThing):
                notes_between(row, 5, start, end)
        # Gone, and made as another one: it comes again behind a cut back to when it stood.
        row = ROW + (("cut back", 4), ("cut back", NOW), ("mark", 5, 2))
        self.assertEqual(notes_between(row, 5, NOW + 2, NOW + 3), [(10, ("turned", (), (5, "file", "old", 2, 2)))])
        with self.assertRaises(NoThing):
            notes_between(row, 5, NOW, NOW + 3)
        self.assertEqual(notes_between(row, 5, NOW + 2, 2), [])
        self.assertEqual(notes_between(ROW, 5, 5, NOW)[0][0], 6)

    def test_refusals_in_their_order(self):
        for row, number in ((None, None), ("row", None), ([None], 0), (ROW + (("strike", 0, "a"),), NOW)):
            for thing, start, end in ((0, 0, 0), (99, 0, 0), (None, None, None)):
                with self.assertRaises(NoRow) as caught:
                    notes_between(row, thing, start, end)
                self.assertEqual(caught.exception.number, number)
        for odd in NO_NUMBERS + (NOW + 1,):
            for thing in (0, 99, None):
                for start, end in ((odd, 0), (odd, -1), (0, odd), (NOW, odd)):
                    with self.assertRaises(NoMoment) as caught:
                        notes_between(ROW, thing, start, end)
                    self.assertIs(caught.exception.thing, odd)
        for odd in NO_NUMBERS + (6, 99):
            for start, end in ((0, NOW), (NOW, 0), (NOW, NOW)):
                with self.assertRaises(NoThing) as caught:
                    notes_between(ROW, odd, start, end)
                self.assertIs(caught.exception.thing, odd)

    def test_the_askers_own(self):
        row = list(ROW)
        told = notes_between(row, 0, 0, NOW)
        row.clear()
        due = list(told)
        notes_between(ROW, 0, 0, NOW).clear()
        self.assertEqual(notes_between(ROW, 0, 0, NOW), due)


def naive_view(tree, thing, whole, way=()):
    """A view, told name by name."""
    kind = tree.kind(thing)
    worth = {"file": tree.text, "link": tree.target}.get(kind, lambda _: None)(thing)
    found = {way: (thing, kind, worth, tree.mark(thing), len(tree.places(thing)))}
    if kind == "folder" and (whole or way == ()):
        for name, one in tree.names(thing).items():
            found.update(naive_view(tree, one, whole, way + (name,)))
    return found


def naive_differences(one, other):
    """Differences, each way by itself, as the document's words are."""
    def unlike(way, here, there):
        return way in here and (way not in there or there[way][0] != here[way][0])

    def uppermost(here, there):
        return sorted(way for way in here if unlike(way, here, there)
                      and not any(unlike(way[:many], here, there) for many in range(len(way))))

    told = [("gone", way) for way in uppermost(one, other)]
    for way in uppermost(other, one):
        rows = {longer[len(way):]: other[longer] for longer in other if longer[:len(way)] == way}
        told.append(("shown", way, tuple((more, rows[more]) for more in sorted(rows))))
    for way in sorted(one):
        upper = [way[:many] for many in range(len(way) + 1)]
        if all(step in other and one[step][0] == other[step][0] for step in upper) and one[way] != other[way]:
            told.append(("turned", way, other[way]))
    return told


def some_row_with_cuts(chance, many=40):
    """A row of changes, alls and cuts back."""
    history = History()
    while len(history) < many:
        tree = history.at(len(history))
        change = some_change(chance, tree.last())
        if chance.random() < 0.15:
            change = ("all", tuple(some_change(chance, tree.last()) for _ in range(chance.randrange(1, 3))))
        if chance.random() < 0.05:
            change = ("cut back", chance.randrange(len(history) + 1))
        if change[0] == "cut back" or tree.can(change):
            history.put(change)
    return history.row()


class TestByChance(unittest.TestCase):
    def test_views_differences_and_notes(self):
        chance = random.Random(15)
        words = {"gone": 0, "shown": 0, "turned": 0}
        for _ in range(60):
            row = some_row_with_cuts(chance)
            trees = [tree_at(row, moment) for moment in range(len(row) + 1)]
            whole = chance.random() < 0.7
            start, end = sorted(chance.sample(range(len(row) + 1), 2))
            thing = chance.choice(trees[start].things() + [0] * 5)
            if not all(thing in tree.things() for tree in trees[start:end + 1]):
                self.assertRaises(NoThing, notes_between, row, thing, start, end, beneath=whole)
                continue
            views = [naive_view(tree, thing, whole) for tree in trees[start:end + 1]]
            for tree, view in zip(trees[start:end + 1], views):
                told = view_of(tree, thing, beneath=whole)
                self.assertEqual(list(told.items()), sorted(view.items()))
                if whole:
                    self.assertEqual(sorted({what[0] for what in told.values()}), beneath(tree, thing))
            due = [(start + number, difference) for number in range(1, len(views))
                   for difference in naive_differences(views[number - 1], views[number])]
            notes = notes_between(row, thing, start, end, beneath=whole)
            self.assertEqual(notes, due)
            self.assertEqual(put_on(views[0], notes), views[-1])
            one, other = chance.choice(views), chance.choice(views)
            self.assertEqual(differences(one, other), naive_differences(one, other))
            told = put_on(one, [(0, difference) for difference in differences(one, other)])
            self.assertEqual(list(told.items()), sorted(other.items()))
            for _, difference in notes:
                words[difference[0]] += 1
        self.assertGreater(min(words.values()), 50)


if __name__ == "__main__":
    unittest.main()
