"""Point 3, (a) to (k), over the whole program, by chance."""

import random
import unittest

from onehistory.archives import packed
from onehistory.disk import Disk
from onehistory.going import Going
from onehistory.hands import Hand, lead, meet
from onehistory.house import House
from onehistory.judge import amiss
from onehistory.recipes import Recipe
from onehistory.roads import road_of
from onehistory.rows import tree_at
from onehistory.tree import beneath
from onehistory.views import put_on, view_of
from onehistory.watches import Watch
from onehistory.world import World
from tests.lively import lively_entry, of_kind
from tests.naive_folding import NaiveFold, told_of
from tests.test_copies import beneath_of
from tests.test_tree import FILE, FOLDER
from tests.truths import Truth, is_refused
from tests.weavings import SIGNS, drawn_world, some_archive, some_path


def grown(chance, most=20):
    house = House()
    for _ in range(most):
        entry = lively_entry(chance, house.now())
        if entry:
            house.change(entry)
    return house


class TestTruth(unittest.TestCase):
    def test_a_each_answer_bears_moments_of_which_it_is_true(self):
        answered = {}
        for seed in range(250):
            world, _ = drawn_world(random.Random(seed), 70)
            record, paper = world.record(), world.paper()
            self.assertEqual(Truth(record, paper).untrue(), [], seed)
            for told in record:
                if told[2] is not None and not is_refused(told[5]):
                    answered[told[4][0]] = answered.get(told[4][0], 0) + 1
        for word in ("going", "walk", "whole", "unpack", "copy", "read", "listed", "road", "globbed", "packed", "look", "taken"):
            self.assertGreater(answered[word], 10, word)

    def test_b_a_going_begins_anew_where_a_folder_that_it_looked_at_turned(self):
        for seed in range(300):
            chance = random.Random(seed)
            house = grown(chance)
            path = some_path(chance, house.now())
            going = Going(house, path)
            turned = 0
            while not going.is_done() and turned < 60:
                ahead = going.anew()
                going.step()
                # Between two beginnings some change of names was done, of which each tells of one folder at least.
                if going.anew() > ahead:
                    self.assertGreater(turned, 0)
                    turned = 0
                entry = lively_entry(chance, house.now()) if chance.random() < 0.4 else None
                if entry:
                    names = sum(house.now().turns(folder) for folder in of_kind(house.now(), "folder"))
                    house.change(entry)
                    now = sum(house.now().turns(folder) for folder in of_kind(house.now(), "folder"))
                    turned += now > names

    def test_b_from_a_held_folder_no_road_leads_out(self):
        for seed in range(400):
            chance = random.Random(seed)
            tree = grown(chance).now()
            at = chance.choice(of_kind(tree, "folder"))
            path = chance.choice(("a/..", "../a", "/a/b", "..", "a/../../b", "b/a", "c", "/", "a/b/c", "../../a/.."))
            try:
                road = road_of(tree, path, at=at, held=True)
            except LookupError:
                continue
            self.assertIn(road.found(), beneath(tree, at))
            for folder, _, thing in road.steps():
                self.assertIn(folder, beneath(tree, at))
                self.assertIn(thing, beneath(tree, at))

    def test_c_what_stood_all_along_is_met(self):
        # Truth tells of each walk that its listings are true and that nothing was passed by: here with many changes.
        walked = 0
        for seed in range(60):
            chance = random.Random(seed)
            world = World()
            world.play([("do", 0, 0, ("all", [("make", 0, name, number, FOLDER) for number, name in enumerate("abc", 1)]))])
            for _ in range(25):
                entry = lively_entry(chance, world.house(0).now())
                if entry:
                    world.play([("do", 0, 0, ("all", entry[1] if entry[0] == "all" else (entry,)))])
                if world.busy() == []:
                    world.play([("begin", 1, 0, ("walk", 0))])
                elif chance.random() < 0.7:
                    world.play([("step", 1)])
            self.assertEqual(Truth(world.record(), world.paper()).untrue(), [])
            walked += len([told for told in world.record() if told[4][0] == "walk" and told[5]])
        self.assertGreater(walked, 60)

    def test_d_notes_put_on_what_a_watch_saw(self):
        for seed in range(150):
            chance = random.Random(seed)
            house = grown(chance, 10)
            thing = chance.choice(house.now().things())
            watch = Watch(house, thing, beneath=chance.random() < 0.7, room=chance.choice((1, 3, 8, 200)))
            saw, at = watch.first(), house.moment()
            whole = chance.random() < 0.5
            for _ in range(20):
                entry = lively_entry(chance, house.now())
                if entry:
                    house.change(entry)
                if chance.random() < 0.15:
                    full, noted = watch.is_full(), watch.noted_to()
                    if whole:
                        # Looked at it tells just what lies between.
                        saw, at = put_on(saw, watch.look()), house.moment()
                        self.assertEqual(saw, watch.seen())
                        self.assertFalse(watch.is_full())
                    else:
                        saw, at = put_on(saw, watch.taken()), noted
                        due = view_of(house.tree(noted), thing, beneath=watch._beneath)
                        self.assertEqual((saw, full), (due, noted < house.moment()))
            self.assertGreaterEqual(house.moment(), at)


class NaiveLocks:
    """Who holds which sign, by what the askers are told alone: dicts from signs to {who: shared}."""

    def __init__(self, test):
        self.test, self.held, self.asked = test, {}, {}

    def signs(self, file, begin, end):
        return [(file, sign) for sign in range(begin, 30 if end is None else end)]

    def get(self, who, file, begin, end, shared):
        for sign in self.signs(file, begin, end):
            holders = self.held.setdefault(sign, {})
            holders[who] = shared
            self.test.assertTrue(len(holders) == 1 or all(holders.values()), "two bar one another")

    def free(self, who, file, begin, end):
        for sign in self.signs(file, begin, end):
            self.held.get(sign, {}).pop(who, None)

    def bars(self, one, other):
        if one[:1] == other[:1] or one[3] and other[3]:
            return False
        return bool(set(self.signs(*one[1])) & set(self.signs(*other[1])))

    def serve(self, got):
        for who in got:
            self.get(who, *self.asked.pop(who))


class TestLocks(unittest.TestCase):
    def test_e_no_two_that_bar_one_another_are_held(self):
        waited = served = 0
        for seed in range(150):
            chance = random.Random(seed)
            world, naive = World(), NaiveLocks(self)
            for _ in range(40):
                asker = chance.randrange(4)
                who = ("owner", asker)
                begin = chance.randrange(6)
                stretch = (chance.randrange(2), begin, chance.choice((None, begin + 1, begin + 3)))
                shared = chance.random() < 0.5
                ask = chance.choice((("lock", *stretch, shared), ("lock", *stretch, shared), ("free", *stretch), ("drop",),
                                     ("leave",)))
                told = world.play([("do", asker, 0, ask)])[0]
                if is_refused(told):
                    continue
                got = told
                if ask[0] == "lock":
                    word, got = told
                    if word == "waits":
                        waited += 1
                        # Something that is held, or waits, bars it.
                        others = [sign for sign in naive.signs(*stretch) for other, sort in naive.held.get(sign, {}).items()
                                  if other != who and not (sort and shared)]
                        others += [other for other, (file, first, end, sort) in naive.asked.items() if not (sort and shared)
                                   and set(naive.signs(file, first, end)) & set(naive.signs(*stretch))]
                        self.assertTrue(others)
                        naive.asked[who] = (*stretch, shared)
                    else:
                        naive.get(who, *stretch, shared)
                elif ask[0] == "free":
                    naive.free(who, *stretch)
                elif ask[0] == "drop":
                    for holders in naive.held.values():
                        holders.pop(who, None)
                    naive.asked.pop(who, None)
                else:
                    naive.asked.pop(who)
                # Served in order, as far as they don't bar.
                order = list(naive.asked)
                self.assertEqual(got, sorted(got, key=order.index) if len(set(got)) == len(got) else None)
                served += len(got)
                naive.serve(got)
            self.assertIsNone(amiss(world.record(), world.paper()))
        self.assertGreater(min(waited, served), 100)


class TestFalls(unittest.TestCase):
    def test_f_behind_a_fall_stands_what_was_there_in_order_by_beginnings(self):
        falls = 0
        for seed in range(200):
            world, _ = drawn_world(random.Random(seed), 60, 1)
            record, ((row,), _) = world.record(), world.paper()
            begin, kept = 0, 0
            for asker, beat, end, _, ask, answer in record:
                if ask == ("keep names",):
                    kept = answer
                if asker is None:
                    ahead = [entry for one, entry in row if one < beat]
                    behind = [entry for one, entry in row if one == beat]
                    self.beginnings(ahead[begin:], behind, begin, kept)
                    begin, kept = len(ahead) + len(behind), 0
                    falls += 1
        self.assertGreater(falls, 150)

    def beginnings(self, entries, behind, begin, kept):
        """The names' entries that are there are the first ones, all kept ones among them, with new numbers."""
        self.assertEqual(behind[0][0], "cut back")
        cut = behind[0][1]
        self.assertGreaterEqual(cut, begin)

        def words(rows):
            return [(entry[0], entry[1] if isinstance(entry[1], tuple) else entry[2]) if entry[0] != "all" else "all"
                    for entry in rows if entry[0] not in ("write", "cut")]

        there = words(entries[:cut - begin]) + words(behind[1:])
        self.assertEqual(there, words(entries)[:len(there)])
        self.assertGreaterEqual(len(there), len(words(entries[:max(kept - begin, 0)])))

    def test_g_behind_any_fall_the_elder_text_or_the_newer_one_whole(self):
        for seed in range(80):
            chance = random.Random(seed)
            house = House()
            disk = Disk(house)
            elder = chance.choice((None, *SIGNS))
            if elder is not None:
                house.make("f", FILE)
                house.write(house.grasp("f"), 0, elder)
                disk.keep(0)
                disk.keep_names()
            newer = chance.choice(SIGNS)
            recipe = Recipe(disk, "f", newer)
            for _ in range(chance.randrange(6)):
                recipe.step()
            for choice in disk.choices(most=10 ** 6)[:200]:
                twin = disk.twin()
                twin.fall(choice)
                found = twin.house().read("f") if "f" in twin.house().listed("/") else None
                self.assertIn(found, (elder, newer))
                if recipe.is_done():
                    self.assertEqual(found, newer)

    def test_g_in_a_world(self):
        for number in range(40):
            for many in range(6):
                world = World()
                world.play([("do", 0, 0, ("all", (("make", 0, "f", 1, FILE), ("write", 1, 0, "elder")))),
                            ("do", 0, 0, ("keep names",)), ("begin", 1, 0, ("whole", "f", "newer", "g"))])
                world.play([("step", 1)] * many)
                world.play([("fall", 0, number)])
                found = world.play([("do", 0, 0, ("read", "f"))])[0]
                self.assertIn(found, ("elder", "newer"))
                if many == 5:
                    self.assertEqual(found, "newer")
                self.assertIsNone(amiss(world.record(), world.paper()))


class TestMoved(unittest.TestCase):
    def test_h_an_archive_gives_the_packed_tree(self):
        for seed in range(100):
            chance = random.Random(seed)
            house = grown(chance)
            text = world_told(house, "packed", "/")
            world = World()
            for ask in (("unpacked", "/", text), ("unpack", "/", text)):
                world = World()
                if ask[0] == "unpack":
                    world.play([("begin", 0, 0, ask)])
                    while world.busy():
                        world.play([("step", 0)])
                else:
                    world.play([("do", 0, 0, ask)])
                tree = world.house(0).now()
                self.assertEqual(beneath_of(tree), beneath_of(house.now()))
                self.assertEqual((packed(tree), tree.mark(0)), (text, house.now().mark(0)))

    def test_h_whoever_wrote_it_nothing_else_changes(self):
        for seed in range(150):
            chance = random.Random(seed)
            world = World()
            world.play([("do", 0, 0, ("make", name, FOLDER)) for name in "xyz"])
            for _ in range(15):
                entry = lively_entry(chance, world.house(0).now())
                if entry:
                    world.play([("do", 0, 0, ("all", entry[1] if entry[0] == "all" else (entry,)))])
            ahead = world.house(0).now()
            path = some_path(chance, ahead, "folder")
            told = world.play([("do", 1, 0, ("unpacked", path, some_archive(chance)))])[0]
            if is_refused(told):
                continue
            behind = world.house(0).now()
            place = road_of(ahead, path).found()
            inside = beneath(ahead, place)
            for thing in ahead.things():
                if thing not in inside or ahead.kind(thing) != "folder":
                    self.assertEqual([ahead.kind(thing), ahead.mark(thing)], [behind.kind(thing), behind.mark(thing)])
                    if ahead.kind(thing) == "folder":
                        self.assertEqual(ahead.names(thing), behind.names(thing))
                    if ahead.kind(thing) == "file":
                        self.assertEqual((ahead.text(thing), ahead.places(thing)), (behind.text(thing), behind.places(thing)))

    def test_i_copies_in_a_world(self):
        for seed in range(100):
            chance = random.Random(seed)
            world = World(2)
            for house in (0, 1):
                for _ in range(15):
                    entry = lively_entry(chance, world.house(house).now())
                    if entry:
                        world.play([("do", 0, house, ("all", entry[1] if entry[0] == "all" else (entry,)))])
            # Stopped by a fall of its own house that loses nothing of it, begun again, gone on with: it comes to the same.
            twin = world.twin()
            self.copied(twin)
            many = chance.randrange(4)
            world.play([("begin", 1, 0, ("copy", "/", 1, "/"))])
            while world.busy() and many:
                world.play([("step", 1)])
                many -= 1
            if world.busy():
                world.play([("begin", 2, 0, ("copy", "/", 1, "/"))])
                while 2 in world.busy():
                    world.play([("step", 2)])
            self.assertEqual(beneath_of(world.house(1).now()), beneath_of(twin.house(1).now()))
            # Nothing is written that stands.
            moment = twin.house(1).moment()
            self.copied(twin)
            self.assertEqual(twin.house(1).moment(), moment)

    def copied(self, world):
        world.play([("begin", 1, 0, ("copy", "/", 1, "/"))])
        while world.busy():
            world.play([("step", 1)])

    def test_j_hands_that_know_the_same(self):
        for seed in range(60):
            chance = random.Random(seed)
            hands = [Hand(number) for number in range(3)]
            houses = [House() for _ in hands]
            for _ in range(50):
                hand = chance.choice(hands)
                entry = lively_entry(chance, hand.tree())
                if entry:
                    hand.do(entry)
                if chance.random() < 0.2:
                    meet(*chance.sample(hands, 2))
            for one, other in ((0, 1), (1, 2), (0, 1)):
                meet(hands[one], hands[other])
            for house, hand in zip(houses, hands):
                lead(house, hand)
                self.assertEqual(told_of(hand.tree()), NaiveFold(hand.records()).told())
                self.assertEqual(beneath_of(house.now()), beneath_of(houses[0].now()))


def world_told(house, *ask):
    """What a world whose house has this row is answered."""
    world = World()
    world.play([("do", 0, 0, ("all", entry[1] if entry[0] == "all" else (entry,))) for entry in house.row()])
    return world.play([("do", 0, 0, ask)])[0]


class TestJudge(unittest.TestCase):
    def test_k_what_it_lets_by_is_true(self):
        """Bent at one place or at two: what is let by nonetheless is true of the told row."""
        let, judged = 0, 0
        for seed in range(700):
            chance = random.Random(seed)
            world, _ = drawn_world(chance, 45)
            record, paper = world.record(), world.paper()
            for _ in range(chance.choice((1, 1, 2))):
                bend(chance, record, paper)
            judged += 1
            if amiss(record, paper) is None:
                let += 1
                self.assertEqual(Truth(record, paper).untrue(), [], seed)
        self.assertGreater(let, 20)
        self.assertGreater(judged - let, 300)


def bend(chance, record, paper):
    """Something of a record and a paper is put otherwise, so that the form holds most often."""
    rows, moments = paper
    number = chance.randrange(len(record))
    told = list(record[number])
    kind = chance.choice(("answer", "answer", "ask", "refused", "moments", "pieces", "entry", "swap", "end", "listing"))
    if kind == "answer":
        told[5] = chance.choice(record)[5]
    elif kind == "ask":
        told[4] = chance.choice(record)[4]
    elif kind == "refused":
        told[5] = ("refused", chance.choice(("Fallen", "Fault", "There", "NoThing")), (chance.randrange(20),))
    elif kind == "moments" and moments[number]:
        first, last, pieces = moments[number]
        moments[number] = (max(0, first + chance.choice((-1, 0, 1))), max(0, last + chance.choice((-1, 0, 1))), pieces)
    elif kind == "pieces" and moments[number] and moments[number][2]:
        pieces = moments[number][2]
        place = chance.randrange(len(pieces))
        pieces[place] = max(0, pieces[place] + chance.choice((-1, 1)))
        if isinstance(told[5], list) and told[4][0] == "unpack":
            told[5] = list(pieces)
        if isinstance(told[5], list) and told[4][0] == "walk":
            told[5] = [(way, folder, moment, names) for (way, folder, _, names), moment in zip(told[5], pieces)]
        if isinstance(told[5], tuple) and told[4][0] == "copy":
            told[5] = ([(*piece[:2], moment) for piece, moment in zip(told[5][0], pieces)], *told[5][1:])
    elif kind == "entry":
        house = chance.choice(rows)
        if house:
            place = chance.randrange(len(house))
            house.insert(place, (house[place][0], ("mark", 0, chance.randrange(5))))
    elif kind == "swap":
        other = chance.randrange(len(record))
        record[other] = (*record[other][:4], told[4], told[5])
    elif kind == "end" and told[2] is not None:
        told[2] += chance.choice((0, 1, 2))
    elif kind == "listing" and isinstance(told[5], list) and told[5]:
        told[5] = told[5][:-1]
    record[number] = tuple(told)


if __name__ == "__main__":
    unittest.main()
