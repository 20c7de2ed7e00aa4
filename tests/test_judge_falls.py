"""Point 39: falls that are told amiss, and those that aren't."""

import random
import unittest

from onehistory.judge import amiss
from onehistory.world import World
from tests.test_tree import FILE, FOLDER
from tests.weavings import drawn_world

MAKE_A, MAKE_B = ("make", 0, "a", 1, FILE), ("make", 0, "b", 2, FILE)
ABC, DE, CUT = ("write", 1, 0, "abc"), ("write", 1, 3, "de"), ("cut", 1, 1)
# a with two writes and a cut, b with one write, d a folder into which b moves.
ROWS = [
    ("do", 0, 0, ("make", "a", FILE)), ("do", 0, 0, ("open", "a")), ("do", 0, 0, ("write", 0, 0, "abc")),
    ("do", 0, 0, ("make", "b", FILE)), ("do", 0, 0, ("open", "b")), ("do", 0, 0, ("write", 1, 0, "xy")),
    ("do", 0, 0, ("write", 0, 3, "de")), ("do", 0, 0, ("make", "d", FOLDER)), ("do", 0, 0, ("move", "b", "d/b")),
    ("do", 0, 0, ("cut", 0, 1)),
]
XY, MAKE_D, MOVE = ("write", 2, 0, "xy"), ("make", 0, "d", 3, FOLDER), ("move", 0, "b", 3, "b")
ENTRIES = [MAKE_A, ABC, MAKE_B, XY, DE, MAKE_D, MOVE, CUT]


class Fall:
    """A fall behind some rows of a world with one house, told by its entries."""

    def __init__(self, rows):
        self.world = World()
        self.world.play(rows)

    def amiss(self, *entries, answer=None, asker=None):
        record, (rows, moments) = self.world.record(), self.world.paper()
        beat = self.world.beats()
        moment = len(rows[0]) + len(entries)
        answer = moment if answer is None else answer
        record.append((asker, beat, beat, 0, ("fall", (0, ())), answer))
        rows[0] += [(beat, entry) for entry in entries]
        moments.append((moment, moment, []))
        found = amiss(record, (rows, moments))
        return "told" if found == ("told", len(record) - 1) else found


def anew(*numbers):
    """The entries with new numbers: of a, b and d."""
    a, b, d = numbers
    return [("make", 0, "a", a, FILE), ("write", a, 0, "abc"), ("make", 0, "b", b, FILE), ("write", b, 0, "xy"),
            ("write", a, 3, "de"), ("make", 0, "d", d, FOLDER), ("move", 0, "b", d, "b"), ("cut", a, 1)]


class TestFalls(unittest.TestCase):
    def setUp(self):
        self.fall = Fall(ROWS)
        self.assertEqual([entry for _, entry in self.fall.world.paper()[0][0]], ENTRIES)

    def lets(self, *entries):
        self.assertIsNone(self.fall.amiss(*entries), entries)

    def told(self, *entries, **more):
        self.assertEqual(self.fall.amiss(*entries, **more), "told", entries)

    def test_what_is_left(self):
        a, abc, b, xy, de, d, move, cut = anew(4, 5, 6)
        self.lets(("cut back", 8))
        self.lets(("cut back", 0), a, abc, b, xy, de, d, move, cut)
        self.lets(("cut back", 0))
        # Of names a beginning, of each file a beginning, in order.
        self.lets(("cut back", 0), a)
        self.lets(("cut back", 0), a, abc)
        self.lets(("cut back", 0), a, abc, b, de)
        self.lets(("cut back", 0), a, b, xy, d, move)
        self.lets(("cut back", 5), *ENTRIES[7:])
        self.lets(("cut back", 5), ("make", 0, "d", 4, FOLDER), CUT)
        self.lets(("cut back", 5), ("make", 0, "d", 4, FOLDER), ("move", 0, "b", 4, "b"))
        self.lets(("cut back", 5), CUT)
        self.lets(("cut back", 1))
        self.lets(("cut back", 1), ABC, DE, CUT)

    def test_first_signs_of_the_next_write(self):
        a, abc, b, xy, de, d, move, cut = anew(4, 5, 6)
        for signs in ("a", "ab"):
            self.lets(("cut back", 1), ("write", 1, 0, signs))
            self.lets(("cut back", 0), a, ("write", 4, 0, signs), b, ("write", 5, 0, "x"), d)
        for signs in ("", "b", "ac", "abcd", "x"):
            self.told(("cut back", 1), ("write", 1, 0, signs))
        self.lets(("cut back", 1), ABC, ("write", 1, 3, "d"))
        # Just its last one, and none where it is behind: then the first signs were of no next one.
        self.told(("cut back", 1), ("write", 1, 0, "ab"), ("cut", 1, 1))
        self.told(("cut back", 1), ABC, ("write", 1, 2, "d"))
        # A cut has no first signs.
        self.told(("cut back", 1), ABC, DE, ("cut", 1, 0))

    def test_what_is_none(self):
        a, abc, b, xy, de, d, move, cut = anew(4, 5, 6)
        self.told()
        self.told(("mark", 0, 1))
        self.told(("mark", 0, 1), ("cut back", 0))
        self.told(("cut back", 0), ("cut back", 0))
        self.told(("cut back", 8), ("mark", 0, 1))
        # Other ones, others' order, gaps.
        self.told(("cut back", 0), ("make", 0, "b", 4, FILE))
        self.told(("cut back", 0), ("make", 0, "b", 4, FILE), ("make", 0, "a", 5, FILE))
        self.told(("cut back", 0), a, b, abc)
        self.told(("cut back", 0), a, ("write", 4, 0, "de"))
        self.told(("cut back", 1), ABC, CUT)
        self.told(("cut back", 5), CUT, CUT)
        self.told(("cut back", 5), ("make", 0, "d", 4, FOLDER), ("make", 0, "e", 5, FOLDER))
        self.told(("cut back", 0), a, abc, ("mark", 4, 1))
        # New numbers alone: the elder ones can't be made.
        self.assertEqual(self.fall.amiss(("cut back", 0), MAKE_A), ("row", 0))

    def test_its_answer(self):
        for answer in (0, 8, 10, True, "9", (9,)):
            self.told(("cut back", 8), answer=answer)
        self.assertIsNone(self.fall.amiss(("cut back", 8), answer=9))
        self.assertIsNone(self.fall.amiss(("cut back", 1), ABC, answer=10))

    def test_a_fall_that_an_asker_asks(self):
        self.told(("cut back", 8), asker=1)

    def test_entries_at_another_house(self):
        world = World(2)
        world.play([("fall", 0, 0)])
        record, (rows, moments) = world.record(), world.paper()
        rows[1].append((0, ("mark", 0, 1)))
        self.assertEqual(amiss(record, (rows, moments)), ("claim", 1))
        world.play([("fall", 1, 0), ("fall", 0, 0)])
        self.assertIsNone(amiss(world.record(), world.paper()))


class TestKept(unittest.TestCase):
    def test_names(self):
        fall = Fall(ROWS[:9] + [("do", 1, 0, ("keep names",))] + ROWS[9:])
        a, abc, b, xy, de, d, move, cut = anew(4, 5, 6)
        for entries in ([], [a], [a, b, d], [a, abc, b, xy, de, d]):
            self.assertEqual(fall.amiss(("cut back", 0), *entries), "told")
        self.assertIsNone(fall.amiss(("cut back", 0), a, b, d, move))
        self.assertIsNone(fall.amiss(("cut back", 7)))
        self.assertEqual(fall.amiss(("cut back", 6)), "told")
        self.assertIsNone(fall.amiss(("cut back", 6), MOVE))

    def test_a_file(self):
        fall = Fall(ROWS[:7] + [("do", 1, 0, ("keep", 0))] + ROWS[7:])
        a, abc, b, xy, de, d, move, cut = anew(4, 5, 6)
        for entries in ([a], [a, abc], [a, abc, ("write", 4, 3, "d")], [a, ("write", 4, 0, "ab"), b]):
            self.assertEqual(fall.amiss(("cut back", 0), *entries), "told")
        self.assertIsNone(fall.amiss(("cut back", 0), a, abc, de))
        self.assertIsNone(fall.amiss(("cut back", 1), ABC, ("make", 0, "b", 4, FILE), DE))
        # Where its file isn't there nothing of it is.
        self.assertIsNone(fall.amiss(("cut back", 0)))
        self.assertEqual(fall.amiss(("cut back", 1)), "told")
        self.assertEqual(fall.amiss(("cut back", 4)), "told")
        self.assertIsNone(fall.amiss(("cut back", 5)))

    def test_names_up_to_an_all_that_writes_it(self):
        rows = [("do", 0, 0, ("make", "a", FILE)), ("do", 0, 0, ("all", (("mark", 0, 3), ("write", 1, 0, "x")))),
                ("do", 0, 0, ("open", "a")), ("do", 0, 0, ("mark", "a", 1)), ("do", 0, 0, ("keep", 0))]
        fall = Fall(rows)
        self.assertEqual(fall.amiss(("cut back", 0)), "told")
        self.assertEqual(fall.amiss(("cut back", 1)), "told")
        self.assertIsNone(fall.amiss(("cut back", 2)))
        self.assertIsNone(fall.amiss(("cut back", 0), ("make", 0, "a", 2, FILE),
                                     ("all", (("mark", 0, 3), ("write", 2, 0, "x")))))
        self.assertEqual(fall.amiss(("cut back", 0), ("make", 0, "a", 2, FILE),
                                    ("all", (("mark", 0, 3), ("write", 2, 0, "y")))), "told")

    def test_since_the_last_fall(self):
        fall = Fall([*ROWS, ("fall", 0, 0)])
        moment = fall.world.house(0).moment()
        self.assertIsNone(fall.amiss(("cut back", moment)))
        for earlier in range(moment):
            self.assertEqual(fall.amiss(("cut back", earlier)), "told")
        fall.world.play([("do", 0, 0, ("make", "n", FILE))])
        self.assertIsNone(fall.amiss(("cut back", moment)))
        last = fall.world.house(0).now().last()
        self.assertIsNone(fall.amiss(("cut back", moment), ("make", 0, "n", last + 1, FILE)))

    def test_by_a_whole(self):
        whole = [("begin", 1, 0, ("whole", "a", "abc", "g"))] + [("step", 1)] * 5
        fall = Fall(whole)
        make, write, move = ("make", 0, "g", 2, FILE), ("write", 2, 0, "abc"), ("move", 0, "g", 0, "a")
        self.assertEqual(fall.amiss(("cut back", 0)), "told")
        self.assertEqual(fall.amiss(("cut back", 0), make, move), "told")
        self.assertEqual(fall.amiss(("cut back", 0), make, ("write", 2, 0, "ab"), move), "told")
        self.assertIsNone(fall.amiss(("cut back", 0), make, write, move))
        # Not yet done: nothing of it is kept.
        fall = Fall(whole[:-1])
        self.assertIsNone(fall.amiss(("cut back", 0)))
        # The first of such writes alone is known to be kept, where all of them are of one file.
        rows = whole[:3] + [("do", 0, 0, ("open", "g")), ("do", 0, 0, ("write", 0, 0, "abc"))] + whole[3:]
        rows += [("do", 0, 0, ("write", 0, 0, "z"))]
        fall = Fall(rows)
        self.assertEqual(fall.amiss(("cut back", 1)), "told")
        self.assertIsNone(fall.amiss(("cut back", 2), ("move", 0, "g", 0, "a")))
        self.assertEqual(fall.amiss(("cut back", 2)), "told")
        # Of two files it isn't known which: names are kept.
        rows = [*whole[:3], ("do", 0, 0, ("strike", "g")), ("do", 0, 0, ("make", "g", FILE)), ("do", 0, 0, ("open", "g")),
                ("do", 0, 0, ("write", 0, 0, "abc")), *whole[3:]]
        fall = Fall(rows)
        entries = [entry for _, entry in fall.world.paper()[0][0]]
        self.assertEqual([entry[0] for entry in entries], ["make", "write", "strike", "make", "write", "move"])
        self.assertIsNone(fall.amiss(("cut back", 1), ("strike", 0, "g"), ("make", 0, "g", 3, FILE), ("move", 0, "g", 0, "a")))
        self.assertEqual(fall.amiss(("cut back", 1), ("strike", 0, "g"), ("make", 0, "g", 3, FILE)), "told")


class TestByChance(unittest.TestCase):
    def test_a_kept_name_or_write_that_is_lost_is_told(self):
        told = 0
        for seed in range(300):
            chance = random.Random(seed)
            world, _ = drawn_world(chance, 40, 1)
            # Rows ahead of the last fall stand; whatever is kept now can't be lost.
            last = max([span[1] for span, row in zip(world.paper()[1], world.record()) if row[0] is None], default=0)
            asker = [asker for asker in range(4) if asker not in world.busy()]
            if not asker:
                continue
            world.play([("do", asker[0], 0, ("make", "zz", FOLDER)), ("do", asker[0], 0, ("keep names",))])
            fall = Fall([])
            fall.world = world
            self.assertEqual(fall.amiss(("cut back", last)), "told")
            told += 1
        self.assertGreater(told, 100)

    def test_each_choice_of_a_fall_is_let_by(self):
        for seed in range(40):
            chance = random.Random(seed)
            world, _ = drawn_world(chance, 30, 1)
            for number in range(25):
                twin = world.twin()
                twin.play([("fall", 0, number)])
                self.assertIsNone(amiss(twin.record(), twin.paper()), (seed, number))


if __name__ == "__main__":
    unittest.main()
