"""Points 34 and 35: hands that change a tree apart and meet, houses led to their trees, and (j) of point 3."""

import random
import unittest

from onehistory.errors import NoChange, NoHand, TooMany
from onehistory.folding import identities_of, tree_of
from onehistory.hands import Hand, lead, meet
from onehistory.house import House
from onehistory.records import are_records
from tests.lively import lively_entry
from tests.test_copies import beneath_of
from tests.test_tree import FILE, FOLDER
from tests.things import ODD


def hand_that_did(number, *changes):
    hand = Hand(number)
    for change in changes:
        hand.do(change)
    return hand


class TestDo(unittest.TestCase):
    def test_numbers_of_hands(self):
        for number in (0, 1, 2):
            hand = Hand(number=number)
            self.assertEqual((hand.called(), len(hand), hand.records(), hand.identities()), (number, 0, [], {0: None}))
            self.assertEqual(len(hand.tree()), 1)
        for thing in (*ODD, 3, -1, 10 ** 29, "0", (0,), 0.0, 1.0):
            with self.assertRaises(NoHand) as caught:
                Hand(thing)
            self.assertIs(caught.exception.thing, thing)

    def test_each_kind_of_change(self):
        hand = Hand(1)
        did = [
            (("make", 0, "d", 1, FOLDER), [("make", None, "d", FOLDER)]),
            (("make", 1, "f", 2, FILE), [("make", (1, 1), "f", FILE)]),
            (("make", 0, "l", 3, ("link", "d")), [("make", None, "l", ("link", "d"))]),
            (("write", 2, 0, "hello"), [("text", (1, 2), "hello")]),
            (("write", 2, 5, ""), [("text", (1, 4), "hello")]),
            (("cut", 2, 2), [("text", (1, 5), "he")]),
            (("name", 0, "g", 2), [("name", (1, 2), None, "g")]),
            (("mark", 2, 7), [("mark", (1, 2), 7)]),
            (("mark", 0, 8), [("mark", None, 8)]),
            (("move", 0, "g", 1, "h"), [("move", (1, 7), (1, 1), "h")]),
            (("exchange", 1, "h", 0, "l"), [("exchange", (1, 7), None, "l", (1, 3), (1, 1), "h")]),
            (("move", 1, "h", 0, "l"), [("strike", (1, 7)), ("move", (1, 3), None, "l")]),
            (("strike", 0, "l"), [("strike", (1, 3))]),
            (("all", (("make", 1, "k", 4, FILE), ("write", 4, 0, "a"), ("move", 1, "k", 1, "f"))), [
                ("make", (1, 1), "k", FILE), ("text", (1, 15), "a"), ("strike", (1, 2)), ("move", (1, 15), (1, 1), "f"),
            ]),
            (("make", 1, "k", 5, FILE), [("make", (1, 1), "k", FILE)]),
        ]
        records = []
        trees = House()
        for change, deeds in did:
            self.assertEqual(hand.do(change=change), len(deeds))
            for deed in deeds:
                many = len(records)
                records.append((1, many + 1, many + 1, (0, many, 0), deed))
            self.assertEqual(hand.records(), records)
            trees.change(change)
            self.assertEqual((hand.tree(), tree_of(records), len(hand)), (trees.now(), trees.now(), len(records)))
            self.assertEqual(hand.identities(), identities_of(records))
        self.assertTrue(are_records(records))
        self.assertEqual(hand.identities(), {0: None, 1: (1, 1), 2: (1, 2), 3: (1, 3), 4: (1, 15), 5: (1, 19)})

    def test_refused_changes_make_nothing_known(self):
        hand = hand_that_did(0, ("make", 0, "d", 1, FOLDER), ("make", 1, "f", 2, FILE))
        cases = [
            (("make", 0, "d", 3, FILE), "there"), (("make", 0, "e", 4, FILE), "thing"), (("write", 2, 1, ""), "size"),
            (("write", 1, 0, ""), "kind"), (("strike", 0, "d"), "full"), (("move", 0, "d", 1, "x"), "within"),
            (("exchange", 0, "d", 0, "d"), "same"), (("name", 0, "x", 9), "absent"), (("cut back", 0), "form"),
            (("all", (("make", 0, "e", 3, FILE), ("write", 3, 1, ""))), "size"), (("all", ()), "form"),
        ]
        cases += [(thing, "form") for thing in ODD]
        records, tree = hand.records(), hand.tree()
        for change, word in cases:
            with self.assertRaises(NoChange) as caught:
                hand.do(change)
            self.assertEqual(caught.exception.word, word)
            self.assertEqual((hand.records(), hand.tree(), hand.identities()), (records, tree, {0: None, 1: (0, 1), 2: (0, 2)}))

    def test_told_things_are_the_askers_own(self):
        hand = hand_that_did(0, ("make", 0, "d", 1, FOLDER))
        hand.records().clear()
        hand.identities().clear()
        hand.tree().do(("strike", 0, "d"))
        tree = hand.tree()
        hand.do(("make", 0, "e", 2, FILE))
        self.assertEqual((len(hand.records()), hand.identities(), hand.tree().names(0)),
                         (2, {0: None, 1: (0, 1), 2: (0, 2)}, {"d": 1, "e": 2}))
        self.assertEqual(tree.names(0), {"d": 1})


class TestKeepAndFall(unittest.TestCase):
    def test_own_records_since_it_kept_are_gone(self):
        hand = hand_that_did(2, ("make", 0, "a", 1, FILE), ("make", 0, "b", 2, FILE))
        self.assertEqual(hand.keep(), 2)
        kept = hand.tree()
        hand.do(("make", 0, "c", 3, FILE))
        hand.do(("strike", 0, "a"))
        self.assertIsNone(hand.fall())
        self.assertEqual((len(hand), hand.tree()), (2, kept))
        # Numbers go on behind what was kept.
        hand.do(("make", 0, "d", 3, FILE))
        self.assertEqual(hand.records()[2], (2, 3, 3, (0, 0, 2), ("make", None, "d", FILE)))
        hand.fall()
        hand.fall()
        self.assertEqual(hand.tree(), kept)
        never = hand_that_did(0, ("make", 0, "a", 1, FILE))
        never.fall()
        self.assertEqual((len(never), len(never.tree()), never.keep()), (0, 1, 0))

    def test_what_was_learnt_stays(self):
        one, other = hand_that_did(0, ("make", 0, "a", 1, FILE)), hand_that_did(1, ("make", 0, "b", 1, FILE))
        self.assertEqual(meet(one, other), (1, 1))
        one.do(("strike", 0, "b"))
        one.fall()
        other.fall()
        # Both kept as they met.
        self.assertEqual((len(one), len(other), one.tree() == other.tree()), (2, 2, True))
        self.assertEqual(one.tree().names(0), {"a": 1, "b": 2})
        self.assertEqual((one.keep(), other.keep()), (2, 2))


class TestMeet(unittest.TestCase):
    def test_both_ways_and_again(self):
        one = hand_that_did(0, ("make", 0, "a", 1, FILE))
        two = hand_that_did(1, ("make", 0, "b", 1, FILE), ("write", 1, 0, "x"))
        three = Hand(2)
        self.assertEqual(meet(one=two, other=three), (0, 2))
        self.assertEqual(meet(one, three), (2, 1))
        self.assertEqual(meet(one, two), (0, 1))
        self.assertEqual(meet(two, three), (0, 0))
        for hand in (one, two, three):
            self.assertEqual((hand.records(), hand.tree()), (one.records(), one.tree()))
        self.assertEqual(one.identities(), {0: None, 1: (0, 1), 2: (1, 1)})
        three.do(("cut", 2, 0))
        self.assertEqual(three.records()[-1], (2, 1, 3, (1, 2, 0), ("text", (1, 2), "")))
        self.assertEqual(meet(one, three), (1, 0))
        self.assertEqual(one.tree().text(2), "")

    def test_two_of_one_number(self):
        one = hand_that_did(1, ("make", 0, "a", 1, FILE))
        twin = one.twin()
        for other in (one, twin, Hand(1)):
            with self.assertRaises(NoHand) as caught:
                meet(one, other)
            self.assertEqual(caught.exception.thing, 1)
        # What is refused changes nothing: none kept.
        one.fall()
        self.assertEqual((len(one), len(twin)), (0, 1))

    def test_what_is_told_of_others_things(self):
        one = hand_that_did(0, ("make", 0, "d", 1, FOLDER), ("make", 1, "f", 2, FILE), ("write", 2, 0, "x"))
        two = Hand(2)
        meet(one, two)
        two.do(("all", (("write", 2, 1, "y"), ("name", 0, "g", 2), ("mark", 1, 3), ("exchange", 0, "d", 0, "g"))))
        one.do(("write", 2, 0, "X"))
        one.do(("move", 1, "f", 0, "k"))
        self.assertEqual(meet(one, two), (4, 2))
        tree = one.tree()
        # Two texts apart: one more file, where the first was by the records ahead.
        self.assertEqual(sorted(tree.text(thing) for thing in tree.things() if tree.kind(thing) == "file"), ["X", "xy"])
        self.assertEqual(tree, two.tree())
        two.do(("write", 3, 0, "z"))
        self.assertEqual(two.records()[-1][4], ("text", (2, 1), "zy"))
        two.do(("mark", 3, 5))
        self.assertEqual(two.records()[-1][4], ("mark", (2, 1), 5))
        two.do(("strike", *tree.places(3)[0]))
        self.assertEqual(two.records()[-1][4], ("strike", (2, 1)))
        self.assertEqual(two.tree(), tree_of(two.records()))

    def test_alike_and_twins(self):
        one, other = hand_that_did(0, ("make", 0, "a", 1, FILE)), hand_that_did(0, ("make", 0, "a", 1, FILE))
        self.assertTrue(one == other)
        self.assertFalse(one != other)
        other.keep()
        self.assertTrue(one == other)
        other.do(("mark", 0, 1))
        self.assertFalse(one == other)
        self.assertFalse(Hand(0) == Hand(1))
        for thing in (None, 0, [], one.records(), one.tree()):
            self.assertFalse(one == thing)
        one.keep()
        one.do(("mark", 1, 4))
        twin = one.twin()
        self.assertTrue(twin == one)
        twin.fall()
        self.assertEqual((len(twin), len(one), one.tree().mark(1), twin.tree().mark(1)), (1, 2, 4, 0))
        twin.do(("mark", 1, 5))
        self.assertFalse(twin == one)
        two = Hand(2)
        meet(one, two)
        self.assertFalse(one == two)


class TestLead(unittest.TestCase):
    def some_hand(self):
        hand = hand_that_did(
            0, ("make", 0, "d", 1, FOLDER), ("make", 1, "f", 2, FILE), ("write", 2, 0, "text"), ("name", 0, "g", 2),
            ("make", 0, "l", 3, ("link", "d")), ("mark", 3, 3), ("mark", 0, 9), ("make", 0, "q", 4, FILE), ("strike", 0, "q"),
        )
        return hand

    def test_from_nothing_and_again(self):
        house, hand = House(), self.some_hand()
        self.assertEqual(lead(house=house, hand=hand), 1)
        self.assertEqual(house.row()[0][0], "all")
        self.assertEqual((beneath_of(house.now()), house.now().mark(0)), (beneath_of(hand.tree()), 9))
        self.assertEqual(len(house.now()), 4)
        self.assertEqual((lead(house, hand), len(house)), (1, 1))
        self.assertEqual((lead(House(), Hand(0)), lead(house, hand)), (0, 1))

    def test_what_stands_stays_the_very_thing(self):
        house = House([
            ("make", 0, "l", 1, ("link", "d")), ("make", 0, "g", 2, FILE), ("make", 0, "d", 3, FOLDER),
            ("make", 3, "x", 4, FOLDER), ("make", 4, "y", 5, FILE), ("write", 2, 0, "textual"), ("mark", 3, 4),
        ])
        hand = self.some_hand()
        self.assertEqual(lead(house, hand), 8)
        tree = house.now()
        self.assertEqual(beneath_of(tree), beneath_of(hand.tree()))
        self.assertEqual(tree.names(0), {"d": 3, "g": 2, "l": 1})
        self.assertEqual(tree.names(3), {"f": 2})
        self.assertEqual(tree.loose(), [4, 5])
        self.assertEqual(tree.last(), 5)

    def test_one_change_is_no_all(self):
        house, hand = House(), self.some_hand()
        lead(house, hand)
        hand.do(("mark", 0, 2))
        self.assertEqual((lead(house, hand), house.row()[-1]), (2, ("mark", 0, 2)))
        hand.do(("write", 2, 4, "s"))
        lead(house, hand)
        self.assertEqual(house.row()[-1], ("write", 2, 0, "texts"))
        hand.do(("cut", 2, 1))
        lead(house, hand)
        self.assertEqual(house.row()[-1], ("cut", 2, 1))

    def test_links_with_another_path_and_other_kinds(self):
        hand = hand_that_did(0, ("make", 0, "a", 1, ("link", "x")), ("make", 0, "b", 2, FOLDER), ("make", 0, "c", 3, FILE))
        house = House([("make", 0, "a", 1, ("link", "y")), ("make", 0, "b", 2, FILE), ("make", 0, "c", 3, FOLDER),
                       ("make", 3, "d", 4, FOLDER), ("name", 4, "k", 2)])
        lead(house, hand)
        tree = house.now()
        self.assertEqual(beneath_of(tree), beneath_of(hand.tree()))
        self.assertEqual((tree.things(), tree.loose()), ([0, 1, 2, 3, 4, 5, 6, 7], [1, 2, 3, 4]))

    def test_files_with_several_names(self):
        # One there, two here, and the other way about.
        hand = hand_that_did(0, ("make", 0, "a", 1, FILE), ("name", 0, "b", 1))
        house = House([("make", 0, "a", 1, FILE), ("make", 0, "b", 2, FILE), ("write", 2, 0, "x")])
        lead(house, hand)
        self.assertEqual((house.now().places(1), house.now().loose()), ([(0, "a"), (0, "b")], [2]))
        hand = hand_that_did(0, ("make", 0, "a", 1, FILE), ("make", 0, "b", 2, FILE))
        house = House([("make", 0, "a", 1, FILE), ("name", 0, "b", 1), ("write", 1, 0, "x")])
        lead(house, hand)
        tree = house.now()
        self.assertEqual((tree.names(0), tree.text(1), tree.text(2)), ({"a": 1, "b": 2}, "", ""))

    def test_too_many(self):
        # Two hundred changes are done, one more is refused.
        for more in (0, 1):
            house, hand = House(), Hand(0)
            changes = []
            for number in range(1, 51):
                name = "abcdefghij"[number % 10] + "abcdefghij"[number // 10]
                changes += [("make", 0, name, number, FILE), ("write", number, 0, "x"), ("mark", number, 1)]
                changes += [("name", 0, name + "n", number)]
            hand.do(("all", tuple(changes)))
            if more:
                hand.do(("mark", 0, 1))
                with self.assertRaises(TooMany) as caught:
                    lead(house, hand)
                self.assertEqual((caught.exception.many, len(house)), (201, 0))
            else:
                self.assertEqual(lead(house, hand), 1)
                self.assertEqual((len(house.row()[0][1]), beneath_of(house.now())), (200, beneath_of(hand.tree())))

    def test_by_chance_from_something_unlike(self):
        for seed in range(150):
            chance = random.Random(seed)
            hand, house = Hand(chance.randrange(3)), House()
            for _ in range(25):
                entry = lively_entry(chance, hand.tree())
                if entry:
                    hand.do(entry)
                entry = lively_entry(chance, house.now())
                if entry and chance.random() < 0.6:
                    house.change(entry)
            ahead = house.tree()
            moment = len(house)
            self.assertEqual(lead(house, hand), len(house))
            self.assertIn(len(house), (moment, moment + 1))
            self.assertEqual(beneath_of(house.now()), beneath_of(hand.tree()))
            self.assertEqual(house.now().mark(0), hand.tree().mark(0))
            self.assertEqual(lead(house, hand), len(house))
            # What stood there with one name alone, of the same kind, a link's path the same, under folders that did.
            self.stays(ahead, house.now(), 0, hand.tree(), 0)

    def stays(self, ahead, behind, folder, goal, other):
        for name, thing in ahead.names(folder).items():
            there = goal.names(other).get(name)
            if there is None or goal.kind(there) != ahead.kind(thing):
                continue
            if ahead.kind(thing) == "link" and ahead.target(thing) != goal.target(there):
                continue
            if len(ahead.places(thing)) > 1 or len(goal.places(there)) > 1:
                continue
            self.assertEqual(behind.names(folder)[name], thing)
            if ahead.kind(thing) == "folder":
                self.stays(ahead, behind, thing, goal, there)


class TestWhatOneChangedAlone(unittest.TestCase):
    def some_hands(self, chance):
        hands = [Hand(number) for number in range(3)]
        for _ in range(10):
            entry = lively_entry(chance, hands[0].tree())
            if entry:
                hands[0].do(entry)
        meet(hands[0], hands[1])
        meet(hands[1], hands[2])
        return hands

    def test_by_chance(self):
        for seed in range(150):
            chance = random.Random(seed)
            hands = self.some_hands(chance)
            for _ in range(60):
                hand = chance.choice(hands)
                roll = chance.random()
                if roll < 0.75:
                    entry = lively_entry(chance, hand.tree())
                    if entry:
                        ahead = hand.tree()
                        hand.do(entry)
                        ahead.do(entry)
                        self.assertEqual(hand.tree(), ahead)
                elif roll < 0.9:
                    one, other = chance.sample(hands, 2)
                    meet(one, other)
                    self.assertEqual((one.tree(), one.records()), (other.tree(), other.records()))
                elif roll < 0.95:
                    hand.keep()
                else:
                    hand.fall()
                self.assertTrue(are_records(hand.records()))
                self.assertEqual(hand.tree(), tree_of(hand.records()))
                self.assertEqual(hand.identities(), identities_of(hand.records()))

    def test_one_alone_stands_in_all(self):
        # Only hand 1 changes since they met: its tree is what all come to.
        for seed in range(60):
            chance = random.Random(seed)
            hands = self.some_hands(chance)
            for _ in range(8):
                entry = lively_entry(chance, hands[1].tree())
                if entry:
                    hands[1].do(entry)
            due = hands[1].tree()
            meet(hands[2], hands[1])
            meet(hands[0], hands[2])
            self.assertEqual([hand.tree() == due for hand in hands], [True] * 3)

    def test_apart_in_folders_of_their_own(self):
        # Each changes only what is beneath a folder of its own: all of it stands in all.
        for seed in range(60):
            chance = random.Random(seed)
            hands = [Hand(number) for number in range(3)]
            hands[0].do(("all", tuple(("make", 0, name, number, FOLDER) for number, name in enumerate("abc", start=1))))
            meet(hands[0], hands[1])
            meet(hands[0], hands[2])
            due = []
            for number, hand in enumerate(hands):
                for _ in range(14):
                    entry = lively_entry(chance, hand.tree())
                    if entry and self.is_beneath(entry, number + 1):
                        hand.do(entry)
                due.append(beneath_of(hand.tree(), number + 1))
            for one, other in ((0, 1), (1, 2), (0, 2)):
                meet(hands[one], hands[other])
            for hand in hands:
                self.assertEqual([beneath_of(hand.tree(), number) for number in (1, 2, 3)], due)

    def is_beneath(self, entry, own):
        """Whether all changes are of a folder or of things that nobody else has."""
        parts = entry[1] if entry[0] == "all" else (entry,)
        for part in parts:
            things = [part[1]] + ([part[3]] if part[0] in ("move", "exchange", "name") else [])
            if any(thing not in (own,) and thing <= 3 for thing in things):
                return False
        return True


if __name__ == "__main__":
    unittest.main()
