"""Point 41: a desk of worlds."""

import random
import unittest

from onehistory.desk import Desk
from onehistory.errors import NoDeskRow, NoMoment, NoName, NoText, NoWeaving, TooMany
from onehistory.texts import shown
from onehistory.world import World
from tests.things import ODD
from tests.weavings import drawn_world


def desk_told(*rows):
    desk = Desk()
    for row in rows:
        desk.say(row)
    return desk


class TestRows(unittest.TestCase):
    def test_each_row(self):
        desk = Desk()
        told = [
            ("names", "-"), ("world b 2", "ok"), ("world a 1", "ok"), ("names", "a b"), ("beats a", "0"), ("amiss a", "no"),
            ("paths a 0", "-"), ("play a ", ""), ("beats a", "0"), ("play a do 0 0 make x folder", "1"),
            ("play a do 0 0 make x/y file; begin 1 0 walk 0; step 1", "2; None; None"), ("beats a", "4"),
            ("paths a 0", "x x/y"), ("step 1", None), ("play a step 1; do 0 0 read x/y; do 0 0 read A",
             "[((), 0, 2, (('x', 1, 'folder'),)), (('x',), 1, 2, (('y', 2, 'file'),))]; ''; ('refused', 'NoPath', ('A',))"),
        ]
        for row, answer in told[:-1]:
            if answer is None:
                self.assertRaises(NoDeskRow, desk.say, row)
            else:
                self.assertEqual(desk.say(row=row), answer, row)
        self.assertRaises(NoText, desk.say, told[-1][0])
        row = told[-1][0].replace("A", "b")
        self.assertEqual(desk.say(row), told[-1][1].replace("'NoPath', ('A',)", "'Fault', ('absent', 'b', ())"))
        self.assertEqual((desk.say("amiss a"), desk.say("beats b"), len(desk)), ("no", "0", 2))
        self.assertEqual((desk.say("paths b 1"), desk.say("drop a"), desk.say("names"), len(desk)), ("-", "ok", "b", 1))
        self.assertEqual((desk.say("drop b"), desk.say("names"), len(desk)), ("ok", "-", 0))

    def test_told_anew(self):
        desk = desk_told("world a 1", "play a do 0 0 make x file")
        self.assertEqual((desk.say("beats a"), desk.say("world a 3"), desk.say("beats a"), len(desk)), ("1", "ok", "0", 1))
        self.assertEqual(desk.say("paths a 2"), "-")

    def test_ways_of_any_number_of_names(self):
        desk = desk_told("world a 1")
        path = []
        for number in range(8):
            path.append("n")
            desk.say("play a do 0 0 make " + "/".join(path) + " folder")
        desk.say("play a do 0 0 make m folder; do 0 0 move n m/n")
        ways = desk.say("paths a 0").split(" ")
        self.assertEqual(ways, ["m" + "/n" * number for number in range(9)])

    def test_blanks(self):
        desk = desk_told("world a 1")
        rows = ["world a 1", "drop a", "names", "amiss a", "beats a", "paths a 0", "play a step 0"]
        bent = ["", " ", "play", "play a", "play  a", "play  a step 0", "drop", "amiss", "beats", "paths a", "world a", "world"]
        for row in rows:
            bent += [" " + row]
            if not row.startswith("play"):
                bent += [row + " ", row + " a", row + "\n", row.replace(" ", "  ")] if " " in row else [row + " "]
        bent += ["play a step 0\n", "play a \n", "names\n"]
        for row in bent:
            with self.assertRaises(NoDeskRow) as caught:
                desk.say(row)
            self.assertEqual((caught.exception.thing, desk.say("names")), (row, "a"))
        # Within the rows that are played it is theirs.
        for row, number in (("play a  step 0", 0), ("play a do 0 0 leave; ", 1), ("play a ; ", 0), ("play a do 0 0  leave", 0),
                            ("play a do 0 0 leave;do 0 0 leave", 0), ("play a do 0 0 leave;  do 0 0 leave", 1),
                            ("play a ;", 0), ("play a do 0 0 leave ; step 0", 0)):
            with self.assertRaises(NoText) as caught:
                desk.say(row)
            self.assertEqual(caught.exception.number, number, row)
        self.assertEqual(desk.say("beats a"), "0")

    def test_what_is_none_of_these(self):
        desk = desk_told("world a 1")
        cases = [
            *ODD, "Names", "name", "world A 1", "world abcdefghi 1", "world a one", "world a 01", "world a -1", "world a 1000000000",
            "world a 1.0", "world a/b 1", "drop A", "drop ..", "amiss A", "beats a1", "paths a x", "paths a 00", "paths a -", "paths A 0",
            "play A step 0", "play .. step 0", "step 0", "do 0 0 leave", "names a", "world a 1 1", "\u0661", "world a \u0661",
        ]
        for row in cases:
            with self.assertRaises(NoDeskRow) as caught:
                desk.say(row)
            self.assertIs(caught.exception.thing, row)
        self.assertEqual((desk.say("names"), len(desk)), ("a", 1))


class TestRefusals(unittest.TestCase):
    def test_what_is_due_first(self):
        desk = desk_told("world a 1")
        cases = [
            ("drop b", NoName, {"thing": "b"}), ("amiss b", NoName, {"thing": "b"}), ("beats b", NoName, {"thing": "b"}),
            ("paths b 9", NoName, {"thing": "b"}), ("play b nonsense", NoName, {"thing": "b"}), ("play b ", NoName, {"thing": "b"}),
            ("drop b ", NoDeskRow, {"thing": "drop b "}), ("paths b x", NoDeskRow, {"thing": "paths b x"}),
            ("world a 0", NoMoment, {"thing": 0}), ("world a 4", NoMoment, {"thing": 4}), ("world b 999999999", NoMoment, {"thing": 999999999}),
            ("paths a 1", NoMoment, {"thing": 1}), ("play a nonsense", NoText, {"number": 0}),
            ("play a do 0 0 leave; step 0; nonsense", NoText, {"number": 2}), ("play a do 0 0 leave; step 0", NoWeaving, {"number": 1}),
            ("play a do 4 0 leave", NoWeaving, {"number": 0}), ("play a do 0 1 leave", NoWeaving, {"number": 0}),
            ("play a begin 0 0 copy / 0 /", NoWeaving, {"number": 0}),
        ]
        for row, error, fields in cases:
            with self.assertRaises(error) as caught:
                desk.say(row)
            self.assertEqual(vars(caught.exception), fields, row)
            self.assertEqual((desk.say("names"), desk.say("beats a"), len(desk)), ("a", "0", 1))

    def test_eight_names_and_a_ninth(self):
        names = ["a", "bb", "c", "d", "e", "f", "g", "hhhhhhhh"]
        desk = desk_told(*[f"world {name} 1" for name in names])
        self.assertEqual((desk.say("names"), len(desk)), (" ".join(names), 8))
        for row in ("world i 1", "world i 0", "world i 9"):
            with self.assertRaises(TooMany) as caught:
                desk.say(row)
            self.assertEqual((caught.exception.many, len(desk)), (9, 8))
        self.assertRaises(NoDeskRow, desk.say, "world i x")
        self.assertEqual(desk.say("world a 2"), "ok")
        self.assertRaises(NoMoment, desk.say, "world a 0")
        self.assertEqual(desk.say("paths a 1"), "-")
        desk.say("drop c")
        self.assertEqual((desk.say("world i 1"), len(desk)), ("ok", 8))

    def test_what_is_refused_changes_nothing(self):
        desk = desk_told("world a 1", "play a do 0 0 make x file; begin 1 0 going x")
        self.assertRaises(NoWeaving, desk.say, "play a step 1; do 0 0 make y file; step 2")
        self.assertEqual((desk.say("beats a"), desk.say("paths a 0")), ("2", "x"))
        self.assertRaises(NoMoment, desk.say, "world a 7")
        self.assertEqual(desk.say("beats a"), "2")


class TestAnswers(unittest.TestCase):
    def test_as_repr_shows_them(self):
        for seed in range(40):
            chance = random.Random(seed)
            _, rows = drawn_world(chance, 40, 3)
            desk, world = desk_told("world w 3"), World(3)
            for row in rows:
                try:
                    text = shown([row])
                except NoWeaving:
                    continue
                if "; " in text or "\n" in text:
                    continue
                try:
                    answers = world.play([row])
                except NoWeaving:
                    self.assertRaises(NoWeaving, desk.say, f"play w {text}")
                    continue
                self.assertEqual(desk.say(f"play w {text}"), repr(answers[0]))
            self.assertEqual((desk.say("amiss w"), desk.say("beats w")), ("no", str(world.beats())))

    def test_several_desks_apart(self):
        one, other = desk_told("world a 1"), Desk()
        self.assertRaises(NoName, other.say, "beats a")
        self.assertEqual((len(one), len(other)), (1, 0))


if __name__ == "__main__":
    unittest.main()
