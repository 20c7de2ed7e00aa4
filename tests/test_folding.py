"""Point 33: the tree that records tell."""

import itertools
import random
import unittest

from onehistory.folding import identities_of, tree_of
from onehistory.hands import Hand, meet
from onehistory.records import are_records
from tests.lively import lively_entry
from tests.naive_folding import NaiveFold, some_records, told_of
from tests.test_tree import FILE, FOLDER


class Records:
    """Records written by hand: each is told with who did it, what it did, and whose it knew (all where left out)."""

    def __init__(self):
        self.rows = {}

    def add(self, hand, deed, knew=None):
        many = [len([row for row in self.rows if row[0] == one]) for one in range(3)]
        knew = list(many if knew is None else knew)
        knew[hand] = many[hand]
        known = [row for row in self.rows.values() if row[1] <= knew[row[0]]]
        count = 1 + max([row[2] for row in known], default=0)
        identity = (hand, many[hand] + 1)
        self.rows[identity] = (*identity, count, tuple(knew), deed)
        return identity

    def told(self):
        rows = [self.rows[identity] for identity in sorted(self.rows)]
        assert are_records(rows), rows
        return rows

    def tree(self):
        return tree_of(records=self.told())

    def ways(self):
        """What stands at each way from the root: (kind, text or path)."""
        tree, found = self.tree(), {}

        def go(way, folder):
            for name, thing in tree.names(folder).items():
                kind = tree.kind(thing)
                worth = {"file": tree.text, "link": tree.target, "folder": lambda _: None}[kind](thing)
                found[way + name] = worth if kind == "file" else kind
                if kind == "folder":
                    go(way + name + "/", thing)

        go("", 0)
        return found


class TestPlain(unittest.TestCase):
    def test_none_and_each_deed(self):
        self.assertEqual(len(tree_of([])), 1)
        self.assertEqual(identities_of([]), {0: None})
        rows = Records()
        d = rows.add(0, ("make", None, "d", FOLDER))
        f = rows.add(0, ("make", d, "f", FILE))
        t = rows.add(0, ("text", f, "one"))
        rows.add(0, ("text", t, "two"))
        l = rows.add(0, ("make", None, "l", ("link", "d/f")))
        g = rows.add(0, ("name", f, None, "g"))
        rows.add(0, ("mark", t, 5))
        rows.add(0, ("mark", None, 6))
        rows.add(0, ("move", l, d, "k"))
        self.assertEqual(told_of(rows.tree()), {
            0: ("folder", None, 6, []), 1: ("folder", None, 0, [(0, "d")]), 2: ("file", "two", 5, [(0, "g"), (1, "f")]),
            3: ("link", "d/f", 0, [(1, "k")]),
        })
        self.assertEqual(list(identities_of(records=rows.told()).items()), [(0, None), (1, d), (2, f), (3, l)])
        rows.add(0, ("exchange", g, d, "k", l, None, "g"))
        self.assertEqual(rows.tree().names(1), {"f": 2, "k": 2})
        self.assertEqual(rows.tree().names(0), {"d": 1, "g": 3})
        rows.add(0, ("strike", f))
        rows.add(0, ("strike", l))
        self.assertEqual(rows.tree().names(1), {"k": 2})
        self.assertEqual((rows.tree().loose(), rows.tree().last()), ([3], 3))
        rows.add(0, ("strike", g))
        rows.add(0, ("strike", d))
        self.assertEqual((rows.tree().loose(), len(rows.tree())), ([1, 2, 3], 4))

    def test_told_dicts_are_the_askers_own(self):
        rows = Records()
        rows.add(0, ("make", None, "d", FOLDER))
        told = rows.told()
        identities_of(told).clear()
        tree_of(told).do(("strike", 0, "d"))
        self.assertEqual((identities_of(told), tree_of(told).names(0)), ({0: None, 1: (0, 1)}, {"d": 1}))

    def test_order_by_count_then_hand(self):
        rows = Records()
        rows.add(2, ("make", None, "c", FILE), knew=(0, 0, 0))
        rows.add(2, ("make", None, "d", FILE), knew=(0, 0, 0))
        rows.add(1, ("make", None, "b", FILE), knew=(0, 0, 0))
        rows.add(0, ("make", None, "a", FILE), knew=(0, 0, 0))
        self.assertEqual(identities_of(rows.told()), {0: None, 1: (0, 1), 2: (1, 1), 3: (2, 1), 4: (2, 2)})
        self.assertEqual(rows.tree().names(0), {"a": 1, "b": 2, "c": 3, "d": 4})
        # Marks: the last in order, whoever told it first.
        rows.add(2, ("mark", None, 3), knew=(0, 0, 2))
        rows.add(1, ("mark", None, 2), knew=(0, 1, 0))
        rows.add(0, ("mark", None, 1), knew=(1, 0, 0))
        self.assertEqual(rows.tree().mark(0), 3)


class TestLines(unittest.TestCase):
    def begun(self):
        rows = Records()
        self.file = rows.add(0, ("make", None, "f", FILE))
        return rows

    def test_texts_that_two_wrote_apart(self):
        rows = self.begun()
        rows.add(1, ("text", self.file, "one"), knew=(1, 0, 0))
        two = rows.add(2, ("text", self.file, "two"), knew=(1, 0, 0))
        self.assertEqual(rows.ways(), {"f": "one", "faa": "two"})
        self.assertEqual(identities_of(rows.told()), {0: None, 1: self.file, 2: two})
        # Each goes on by itself; a third one, apart, begins one more.
        rows.add(0, ("text", self.file, "three"), knew=(1, 0, 0))
        self.assertEqual(rows.ways(), {"f": "three", "faa": "one", "fab": "two"})
        rows.add(2, ("text", two, "two more"))
        rows.add(1, ("text", (1, 1), "one more"), knew=(2, 1, 2))
        self.assertEqual(rows.ways(), {"f": "three", "faa": "one more", "fab": "two more"})

    def test_one_that_goes_on_twice_and_one_apart(self):
        rows = self.begun()
        first = rows.add(1, ("text", self.file, "one"), knew=(1, 0, 0))
        rows.add(1, ("text", first, "one and more"), knew=(1, 1, 0))
        rows.add(2, ("text", self.file, "two"), knew=(1, 0, 0))
        self.assertEqual(rows.ways(), {"f": "one and more", "faa": "two"})
        # From the line's elder record, ahead in order of what went on from it: this one goes on, the other begins.
        rows.add(0, ("text", first, "other"), knew=(1, 1, 0))
        self.assertEqual(rows.ways(), {"f": "other", "faa": "two", "fab": "one and more"})
        # Behind it in order.
        rows.add(2, ("text", first, "late"), knew=(1, 1, 1))
        self.assertEqual(rows.ways(), {"f": "other", "faa": "two", "fab": "one and more", "fac": "late"})

    def test_a_lines_mark_begins_as_its_files(self):
        rows = self.begun()
        rows.add(0, ("mark", self.file, 4))
        rows.add(1, ("text", self.file, "one"), knew=(1, 0, 0))
        two = rows.add(2, ("text", self.file, "two"), knew=(2, 0, 0))
        rows.add(0, ("mark", self.file, 5))
        tree = rows.tree()
        self.assertEqual([tree.mark(thing) for thing in (1, 2)], [5, 4])
        rows.add(0, ("mark", two, 6))
        tree = rows.tree()
        self.assertEqual([tree.mark(thing) for thing in (1, 2)], [5, 6])

    def test_where_a_line_comes(self):
        # Moved by a record ahead in order that the text doesn't know: where the naming stands by then.
        rows = self.begun()
        d = rows.add(0, ("make", None, "d", FOLDER))
        rows.add(0, ("move", self.file, d, "g"))
        rows.add(1, ("text", self.file, "one"), knew=(2, 0, 0))
        rows.add(2, ("text", self.file, "two"), knew=(3, 0, 0))
        self.assertEqual(rows.ways(), {"d": "folder", "d/g": "one", "d/gaa": "two"})
        # By one behind it in order: where it stood ahead of that.
        rows = self.begun()
        d = rows.add(0, ("make", None, "d", FOLDER))
        rows.add(1, ("text", self.file, "one"), knew=(2, 0, 0))
        rows.add(2, ("text", self.file, "two"), knew=(2, 0, 0))
        rows.add(0, ("mark", d, 1))
        rows.add(0, ("move", self.file, d, "g"))
        self.assertEqual(rows.ways(), {"d": "folder", "d/g": "one", "faa": "two"})

    def test_the_first_naming_of_which_no_strike_is_known(self):
        rows = self.begun()
        g = rows.add(0, ("name", self.file, None, "g"))
        rows.add(0, ("strike", self.file))
        rows.add(1, ("text", self.file, "one"), knew=(3, 0, 0))
        rows.add(2, ("text", self.file, "two"), knew=(3, 0, 0))
        self.assertEqual(rows.ways(), {"g": "one", "gaa": "two"})
        # Both struck, known of each: loose.
        rows = self.begun()
        g = rows.add(0, ("name", self.file, None, "g"))
        rows.add(0, ("strike", self.file))
        rows.add(0, ("strike", g))
        rows.add(1, ("text", self.file, "one"), knew=(4, 0, 0))
        two = rows.add(2, ("text", self.file, "two"), knew=(4, 0, 0))
        self.assertEqual((rows.ways(), rows.tree().loose()), ({}, [1, 2]))
        # What is told of its naming is passed over: it has none.
        rows.add(2, ("move", two, None, "h"))
        rows.add(2, ("strike", two))
        self.assertEqual((rows.ways(), rows.tree().loose()), ({}, [1, 2]))
        rows.add(2, ("name", two, None, "k"))
        self.assertEqual(rows.ways(), {"k": "two"})

    def test_a_strike_that_the_text_does_not_know(self):
        # Hand 0 strikes what hand 1 wrote meanwhile: the strike doesn't count.
        rows = self.begun()
        rows.add(0, ("strike", self.file))
        rows.add(1, ("text", self.file, "one"), knew=(1, 0, 0))
        self.assertEqual(rows.ways(), {"f": "one"})
        # Where two wrote, and the strike knows one, it stands again, both.
        rows.add(2, ("text", self.file, "two"), knew=(1, 0, 0))
        self.assertEqual(rows.ways(), {"f": "one", "faa": "two"})
        # A strike of a line's own naming.
        rows.add(0, ("strike", (2, 1)))
        self.assertEqual(rows.ways(), {"f": "one"})

    def test_a_text_that_goes_on_is_no_naming(self):
        rows = self.begun()
        t = rows.add(0, ("text", self.file, "x"))
        rows.add(0, ("strike", t))
        rows.add(0, ("move", t, None, "g"))
        k = rows.add(0, ("make", None, "k", FILE))
        self.assertEqual(rows.ways(), {"f": "x", "k": ""})
        # The other half of an exchange is done.
        rows.add(0, ("exchange", t, None, "p", k, None, "q"))
        self.assertEqual(rows.ways(), {"f": "x", "q": ""})
        rows.add(0, ("name", t, None, "m"))
        rows.add(0, ("mark", t, 3))
        self.assertEqual(rows.ways(), {"f": "x", "q": "", "m": "x"})
        self.assertEqual(rows.tree().mark(1), 3)


class TestMoves(unittest.TestCase):
    def folders(self):
        rows = Records()
        self.a = rows.add(0, ("make", None, "a", FOLDER))
        self.b = rows.add(0, ("make", None, "b", FOLDER))
        self.c = rows.add(0, ("make", self.b, "c", FOLDER))
        return rows

    def test_two_folders_into_one_another(self):
        rows = self.folders()
        rows.add(1, ("move", self.a, self.b, "x"), knew=(3, 0, 0))
        rows.add(2, ("move", self.b, self.a, "y"), knew=(3, 0, 0))
        # The first in order is done, the other one passed over.
        self.assertEqual(rows.ways(), {"b": "folder", "b/c": "folder", "b/x": "folder"})
        # One ahead in order, that comes by a third hand, turns that.
        rows.add(0, ("move", self.b, self.a, "z"))
        self.assertEqual(rows.ways(), {"b": "folder", "b/c": "folder", "b/x": "folder"})

    def test_into_itself_and_deep_beneath(self):
        rows = self.folders()
        rows.add(0, ("move", self.a, self.a, "x"))
        rows.add(0, ("move", self.b, self.c, "x"))
        self.assertEqual(rows.ways(), {"a": "folder", "b": "folder", "b/c": "folder"})
        rows.add(0, ("move", self.c, self.a, "x"))
        rows.add(0, ("move", self.b, self.c, "y"))
        self.assertEqual(rows.ways(), {"a": "folder", "a/x": "folder", "a/x/y": "folder"})

    def test_exchanges(self):
        rows = self.folders()
        rows.add(0, ("exchange", self.a, self.b, "c", self.c, None, "a"))
        self.assertEqual(rows.ways(), {"a": "folder", "b": "folder", "b/c": "folder"})
        self.assertEqual(rows.tree().names(0)["a"], 3)
        # The second move is looked at behind the first: b leaves c's folder's way ahead of it.
        rows = self.folders()
        rows.add(0, ("exchange", self.c, None, "x", self.b, self.c, "y"))
        self.assertEqual(rows.ways(), {"a": "folder", "x": "folder", "x/y": "folder"})
        # The first is passed over, the second not: c comes to a.
        rows = self.folders()
        rows.add(0, ("exchange", self.b, self.c, "x", self.c, self.a, "y"))
        self.assertEqual(rows.ways(), {"a": "folder", "a/y": "folder", "b": "folder"})
        # The first is done, the second is beneath by it.
        rows = self.folders()
        rows.add(0, ("exchange", self.a, self.b, "x", self.b, self.a, "y"))
        self.assertEqual(rows.ways(), {"b": "folder", "b/c": "folder", "b/x": "folder"})
        # One naming twice.
        rows = self.folders()
        rows.add(0, ("exchange", self.a, self.b, "x", self.a, None, "y"))
        self.assertEqual(rows.ways(), {"y": "folder", "b": "folder", "b/c": "folder"})


class TestStrikes(unittest.TestCase):
    def test_of_a_link_always(self):
        rows = Records()
        l = rows.add(0, ("make", None, "l", ("link", "a")))
        d = rows.add(0, ("make", None, "d", FOLDER))
        rows.add(1, ("strike", l), knew=(1, 0, 0))
        rows.add(2, ("move", l, d, "k"), knew=(2, 0, 0))
        self.assertEqual((rows.ways(), rows.tree().loose()), ({"d": "folder"}, [1]))

    def test_of_a_file_just_where_nobody_wrote_apart(self):
        rows = Records()
        f = rows.add(0, ("make", None, "f", FILE))
        t = rows.add(0, ("text", f, "x"))
        g = rows.add(0, ("name", f, None, "g"))
        rows.add(1, ("strike", f), knew=(3, 0, 0))
        self.assertEqual(rows.ways(), {"g": "x"})
        # Moved, named, marked apart: the strike counts nonetheless.
        rows.add(2, ("move", f, None, "h"), knew=(3, 0, 0))
        rows.add(2, ("mark", f, 1), knew=(3, 0, 0))
        self.assertEqual(rows.ways(), {"g": "x"})
        # A text that knows the strike: it counts still.
        rows.add(0, ("text", t, "y"), knew=(3, 1, 0))
        self.assertEqual(rows.ways(), {"g": "y"})
        # One that doesn't: so of each of its namings.
        rows.add(1, ("strike", g))
        self.assertEqual(rows.ways(), {})
        rows.add(2, ("text", t, "z"), knew=(3, 0, 2))
        self.assertEqual(rows.ways(), {"g": "y", "h": "y", "haa": "z"})

    def test_a_strike_that_knew_one_line_only(self):
        rows = Records()
        f = rows.add(0, ("make", None, "f", FILE))
        rows.add(1, ("text", f, "one"), knew=(1, 0, 0))
        rows.add(2, ("text", f, "two"), knew=(1, 0, 0))
        rows.add(1, ("strike", f), knew=(1, 1, 0))
        self.assertEqual(rows.ways(), {"f": "one", "faa": "two"})
        rows.add(0, ("strike", f))
        self.assertEqual(rows.ways(), {"faa": "two"})

    def test_of_a_folder_where_all_in_it_is_known_gone(self):
        rows = Records()
        d = rows.add(0, ("make", None, "d", FOLDER))
        f = rows.add(0, ("make", d, "f", FILE))
        rows.add(0, ("move", f, None, "f"))
        rows.add(1, ("strike", d), knew=(3, 0, 0))
        self.assertEqual(rows.ways(), {"f": ""})
        # Something came into it apart: it stands again.
        g = rows.add(2, ("make", d, "g", FILE), knew=(3, 0, 0))
        self.assertEqual(rows.ways(), {"f": "", "d": "folder", "d/g": ""})
        # Though it left by one that the strike doesn't know.
        rows.add(2, ("move", g, None, "g"), knew=(3, 0, 1))
        self.assertEqual(rows.ways(), {"f": "", "d": "folder", "g": ""})
        # A strike that knows it.
        rows.add(0, ("strike", d))
        self.assertEqual(rows.ways(), {"f": "", "g": ""})

    def test_of_a_folder_by_strikes_in_it(self):
        rows = Records()
        d = rows.add(0, ("make", None, "d", FOLDER))
        f = rows.add(0, ("make", d, "f", FILE))
        rows.add(0, ("strike", f))
        rows.add(0, ("strike", d))
        self.assertEqual(rows.ways(), {})
        # The file was written apart: its strike doesn't count, neither does the folder's.
        rows.add(1, ("text", f, "x"), knew=(2, 0, 0))
        self.assertEqual(rows.ways(), {"d": "folder", "d/f": "x"})

    def test_a_folder_in_a_struck_folder(self):
        rows = Records()
        d = rows.add(0, ("make", None, "d", FOLDER))
        e = rows.add(0, ("make", d, "e", FOLDER))
        rows.add(0, ("strike", e))
        rows.add(0, ("strike", d))
        rows.add(1, ("make", e, "x", FILE), knew=(2, 0, 0))
        self.assertEqual(rows.ways(), {"d": "folder", "d/e": "folder", "d/e/x": ""})

    def test_a_folders_strike_that_comes_to_count(self):
        rows = Records()
        d = rows.add(0, ("make", None, "d", FOLDER))
        e = rows.add(0, ("make", None, "e", FOLDER))
        rows.add(1, ("strike", d), knew=(2, 0, 0))
        rows.add(2, ("mark", d, 1), knew=(2, 0, 0))
        rows.add(2, ("move", e, d, "e"), knew=(2, 0, 0))
        self.assertEqual(rows.ways(), {"d": "folder", "d/e": "folder"})
        # By d's move into e, ahead in order, e's into d is passed over: the strike counts, and d isn't in e.
        rows.add(0, ("move", d, e, "d"), knew=(2, 0, 0))
        self.assertEqual(rows.ways(), {"e": "folder"})


class TestNames(unittest.TestCase):
    def test_taken_twice_and_thrice(self):
        rows = Records()
        for hand in range(3):
            rows.add(hand, ("make", None, "longname", FILE), knew=(0, 0, 0))
        rows.add(0, ("make", None, "longnaab", FILE), knew=(0, 0, 0))
        rows.add(1, ("make", None, "ab", FILE), knew=(0, 1, 0))
        rows.add(2, ("make", None, "ab", FOLDER), knew=(0, 0, 1))
        self.assertEqual(rows.tree().names(0), {
            "longname": 1, "longnaaa": 2, "longnaab": 3, "longnaac": 4, "ab": 5, "abaa": 6,
        })

    def test_one_that_was_left_unknown_is_in_the_way(self):
        rows = Records()
        a = rows.add(0, ("make", None, "a", FILE))
        rows.add(0, ("move", a, None, "b"))
        rows.add(1, ("make", None, "a", FILE), knew=(1, 0, 0))
        self.assertEqual(rows.tree().names(0), {"aaa": 2, "b": 1})
        # Known: it is free.
        rows.add(1, ("make", None, "a", FOLDER))
        self.assertEqual(rows.tree().names(0), {"a": 3, "aaa": 2, "b": 1})

    def test_a_strike_that_counts_frees_it(self):
        for writes in (False, True):
            rows = Records()
            a = rows.add(0, ("make", None, "a", FILE))
            rows.add(0, ("strike", a))
            if writes:
                rows.add(2, ("text", a, "x"), knew=(1, 0, 0))
            rows.add(1, ("make", None, "a", FOLDER), knew=(2, 0, 0))
            due = {"a": "x", "aaa": "folder"} if writes else {"a": "folder"}
            self.assertEqual(rows.ways(), due)

    def test_of_one_record(self):
        rows = Records()
        a = rows.add(0, ("make", None, "a", FILE))
        b = rows.add(0, ("make", None, "b", FILE))
        rows.add(0, ("exchange", a, None, "b", b, None, "a"))
        self.assertEqual(rows.tree().names(0), {"a": 2, "b": 1})
        # The other one's move is passed over: so it is in the way.
        rows = Records()
        a = rows.add(0, ("make", None, "a", FOLDER))
        b = rows.add(0, ("make", None, "b", FOLDER))
        rows.add(0, ("exchange", a, None, "b", b, b, "x"))
        self.assertEqual(rows.tree().names(0), {"baa": 1, "b": 2})

    def test_its_own_elder_placing_is_not_in_the_way(self):
        rows = Records()
        a = rows.add(0, ("make", None, "a", FILE))
        rows.add(1, ("move", a, None, "b"), knew=(1, 0, 0))
        rows.add(2, ("move", a, None, "a"), knew=(1, 0, 0))
        self.assertEqual(rows.tree().names(0), {"a": 1})

    def test_other_folders_are_not_in_the_way(self):
        rows = Records()
        d = rows.add(0, ("make", None, "d", FOLDER))
        rows.add(1, ("make", d, "a", FILE), knew=(1, 0, 0))
        rows.add(2, ("make", None, "a", FILE), knew=(1, 0, 0))
        self.assertEqual(rows.ways(), {"a": "", "d": "folder", "d/a": ""})


class TestWhoeverMetWhom(unittest.TestCase):
    def test_in_all_orders_of_meeting(self):
        pairs = [(0, 1), (0, 2), (1, 2)]
        for seed in range(25):
            found = []
            chance = random.Random(seed)
            hands = [Hand(number) for number in range(3)]
            hands[0].do(("all", (("make", 0, "a", 1, FOLDER), ("make", 1, "f", 2, FILE), ("write", 2, 0, "x"))))
            meet(hands[0], hands[1])
            meet(hands[1], hands[2])
            for hand in hands:
                for _ in range(8):
                    entry = lively_entry(chance, hand.tree())
                    if entry:
                        hand.do(entry)
            for order in itertools.product(pairs, repeat=3):
                if len(set(order)) > 1:
                    twins = [hand.twin() for hand in hands]
                    for one, other in order + ((0, 1), (1, 2), (0, 1)):
                        meet(twins[one], twins[other])
                    for twin in twins:
                        self.assertEqual(twin.records(), twins[0].records())
                        self.assertEqual(twin.tree(), twins[0].tree())
                    found.append((twins[0].records(), twins[0].identities(), told_of(twins[0].tree())))
            for one in found:
                self.assertEqual(one, found[0])

    def test_as_the_words_tell(self):
        for seed in range(400):
            chance = random.Random(seed)
            records = some_records(chance, chance.randrange(1, 45))
            naive = NaiveFold(records)
            self.assertEqual(told_of(tree_of(records)), naive.told(), seed)
            self.assertEqual(identities_of(records), naive.identities())
            chance.shuffle(records)
            self.assertEqual(told_of(tree_of(records)), naive.told())

    def test_nothing_that_stands_is_in_a_folder_that_does_not(self):
        for seed in range(300):
            chance = random.Random(seed)
            tree = tree_of(some_records(chance, 40))
            loose = tree.loose()
            for thing in tree.things():
                for folder, name in tree.places(thing):
                    self.assertNotIn(folder, loose)
                    self.assertEqual(tree.names(folder)[name], thing)
                    above = []
                    while folder != 0:
                        self.assertNotIn(folder, above)
                        above.append(folder)
                        folder = tree.parent(folder)[0]


if __name__ == "__main__":
    unittest.main()
