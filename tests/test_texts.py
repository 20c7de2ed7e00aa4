"""Point 40: rows of worlds as texts."""

import random
import unittest

from onehistory.errors import NoText, NoWeaving
from onehistory.texts import read_rows, shown
from tests.test_archives import archive
from tests.things import ODD
from tests.weavings import drawn_world

# Each row with how it is written.
WRITTEN = [
    (("do", 0, 0, ("make", "a/b", ("folder",))), "do 0 0 make a/b folder"),
    (("do", 0, 0, ("make", "/a", ("file",))), "do 0 0 make /a file"),
    (("do", 0, 0, ("make", "a", ("link", "../b"))), "do 0 0 make a link:../b"),
    (("do", 0, 0, ("make", "a", ("link", "/"))), "do 0 0 make a link:/"),
    (("do", 3, 2, ("strike", "..")), "do 3 2 strike .."),
    (("do", 0, 0, ("move", ".", "/")), "do 0 0 move . /"),
    (("do", 0, 0, ("exchange", "a", "b/c")), "do 0 0 exchange a b/c"),
    (("do", 0, 0, ("name", "a", "b")), "do 0 0 name a b"),
    (("do", 0, 0, ("mark", "a", 999999999)), "do 0 0 mark a 999999999"),
    (("do", 0, 0, ("read", "a")), "do 0 0 read a"),
    (("do", 0, 0, ("listed", "/a/../b")), "do 0 0 listed /a/../b"),
    (("do", 0, 0, ("open", "a")), "do 0 0 open a"),
    (("do", 0, 0, ("text", 0)), "do 0 0 text 0"),
    (("do", 0, 0, ("write", 10, 0, "a b\\c\n\n e")), "do 0 0 write 10 0 a\\sb\\\\c\\n\\n\\se"),
    (("do", 0, 0, ("write", 1, 2, "")), "do 0 0 write 1 2 \\e"),
    (("do", 0, 0, ("write", 1, 2, "\\e")), "do 0 0 write 1 2 \\\\e"),
    (("do", 0, 0, ("write", 1, 2, "\\s")), "do 0 0 write 1 2 \\\\s"),
    (("do", 0, 0, ("write", 1, 2, "~" * 200)), "do 0 0 write 1 2 " + "~" * 200),
    (("do", 0, 0, ("cut", 1, 2)), "do 0 0 cut 1 2"),
    (("do", 0, 0, ("close", 7)), "do 0 0 close 7"),
    (("do", 0, 0, ("keep", 7)), "do 0 0 keep 7"),
    (("do", 0, 0, ("keep names",)), "do 0 0 keep-names"),
    (("do", 0, 0, ("road", "a")), "do 0 0 road a"),
    (("do", 0, 0, ("globbed", "/**/a?*")), "do 0 0 globbed /**/a?*"),
    (("do", 0, 0, ("lock", 1, 0, None, True)), "do 0 0 lock 1 0 - yes"),
    (("do", 0, 0, ("lock", 1, 0, 5, False)), "do 0 0 lock 1 0 5 no"),
    (("do", 0, 0, ("free", 1, 0, None)), "do 0 0 free 1 0 -"),
    (("do", 0, 0, ("leave",)), "do 0 0 leave"),
    (("do", 0, 0, ("drop",)), "do 0 0 drop"),
    (("do", 0, 0, ("watch", 0, True, 20)), "do 0 0 watch 0 yes 20"),
    (("do", 0, 0, ("taken", 0)), "do 0 0 taken 0"),
    (("do", 0, 0, ("look", 12)), "do 0 0 look 12"),
    (("do", 0, 0, ("packed", "a")), "do 0 0 packed a"),
    (("do", 0, 0, ("unpacked", "a", "archive 1\nfolder 0 .\n")), "do 0 0 unpacked a archive\\s1\\nfolder\\s0\\s.\\n"),
    (("do", 0, 0, ("unpacked", "a", "")), "do 0 0 unpacked a \\e"),
    (("do", 999999999, 123456789, ("leave",)), "do 999999999 123456789 leave"),
    (("begin", 0, 0, ("going", "a")), "begin 0 0 going a"),
    (("begin", 0, 0, ("walk", 5)), "begin 0 0 walk 5"),
    (("begin", 0, 0, ("whole", "a", "x y", "beside")), "begin 0 0 whole a x\\sy beside"),
    (("begin", 0, 0, ("whole", "a", "", "x" * 201)), "begin 0 0 whole a \\e " + "x" * 201),
    (("begin", 0, 0, ("unpack", "a", "x" * 3000)), "begin 0 0 unpack a " + "x" * 3000),
    (("begin", 0, 0, ("copy", "a", 1, "b")), "begin 0 0 copy a 1 b"),
    (("begin", 9, 7, ("copy", "a", 7, "b")), "begin 9 7 copy a 7 b"),
    (("step", 0), "step 0"),
    (("step", 77), "step 77"),
    (("fall", 0, 999999999), "fall 0 999999999"),
]
GOOD = ("do", 0, 0, ("leave",))


class TestShown(unittest.TestCase):
    def test_each_word(self):
        for row, text in WRITTEN:
            self.assertEqual(shown(rows=[row]), text)
            self.assertEqual(repr(read_rows(text=text)), repr([row]))
        self.assertEqual(shown([row for row, _ in WRITTEN]), "\n".join(text for _, text in WRITTEN))
        self.assertEqual((shown([]), read_rows("")), ("", []))

    def test_what_cannot_be_written(self):
        cases = [
            ("do", 0, 0, ("all", ())), ("do", 0, 0, ("all", (("mark", 0, 1),))), ("do", 0, 0, ("make", "A", ("file",))),
            ("do", 0, 0, ("make", "a", "file")), ("do", 0, 0, ("make", "a", ("link", "A"))), ("do", 0, 0, ("mark", "a", -1)),
            ("do", 0, 0, ("mark", "a", 1000000000)), ("do", 0, 0, ("mark", "a", True)), ("do", 0, 0, ("mark", "a", None)),
            ("do", 0, 0, ("write", 0, 0, "x" * 201)), ("do", 0, 0, ("write", 0, 0, "\t")), ("do", 0, 0, ("write", 0, 0, None)),
            ("do", 0, 0, ("globbed", "A")), ("do", 0, 0, ("globbed", None)), ("do", 0, 0, ("lock", 0, 0, 5, 1)),
            ("do", 0, 0, ("lock", 0, None, 5, True)), ("do", 0, 0, ("lock", 0, 0, False, True)), ("do", 0, 0, ("free", 0, 0, "-")),
            ("do", 0, 0, ("watch", 0, None, 20)), ("do", 0, 0, ("watch", None, True, 20)), ("do", 0, 0, ("unpacked", "a", None)),
            ("do", 0, 0, ("unpacked", "a", "\t")), ("do", 0, 0, ("read", None)), ("do", 0, 0, ("read",)), ("do", 0, 0, ()),
            ("do", 0, 0, ("read", "a", "b")), ("do", 0, 0, ["read", "a"]), ("do", 0, 0, ("going", "a")), ("do", 0, ("leave",)),
            ("do", -1, 0, ("leave",)), ("do", None, 0, ("leave",)), ("do", True, 0, ("leave",)), ("do", 10 ** 9, 0, ("leave",)),
            ("do", 0, "0", ("leave",)), ("begin", 0, 0, ("read", "a")), ("begin", 0, 0, ("whole", "a", "x" * 201, "b")),
            ("begin", 0, 0, ("whole", "a", "x", None)), ("begin", 0, 0, ("copy", "a", None, "b")), ("step",), ("step", 0, 0),
            ("step", None), ("fall", 0), ("fall", 0, -1), ("fall", 0, 10 ** 9), ("fall", 0, None), ("keep-names",), list(GOOD),
            ("do", 0, 0, ("keep-names",)), *[thing for thing in ODD], "do 0 0 leave",
        ]
        for row in cases:
            for ahead in range(3):
                with self.assertRaises(NoWeaving) as caught:
                    shown([GOOD] * ahead + [row, GOOD, row])
                self.assertEqual(caught.exception.number, ahead, row)
        for thing in (*ODD, (), (GOOD,), "", "step 0"):
            if not isinstance(thing, list):
                with self.assertRaises(NoWeaving) as caught:
                    shown(thing)
                self.assertIsNone(caught.exception.number)


# Rows with a number at each place at which one may stand.
WITH_NUMBERS = [
    lambda number: ("do", number, 0, ("leave",)), lambda number: ("do", 0, number, ("leave",)),
    lambda number: ("begin", number, 0, ("going", "a")), lambda number: ("begin", 0, number, ("going", "a")),
    lambda number: ("step", number), lambda number: ("fall", number, 0), lambda number: ("fall", 0, number),
    lambda number: ("do", 0, 0, ("mark", "a", number)), lambda number: ("do", 0, 0, ("text", number)),
    lambda number: ("do", 0, 0, ("write", number, 0, "a")), lambda number: ("do", 0, 0, ("write", 0, number, "a")),
    lambda number: ("do", 0, 0, ("cut", number, 0)), lambda number: ("do", 0, 0, ("cut", 0, number)),
    lambda number: ("do", 0, 0, ("close", number)), lambda number: ("do", 0, 0, ("keep", number)),
    lambda number: ("do", 0, 0, ("lock", number, 0, 5, True)), lambda number: ("do", 0, 0, ("lock", 0, number, 5, True)),
    lambda number: ("do", 0, 0, ("lock", 0, 0, number, True)), lambda number: ("do", 0, 0, ("free", number, 0, None)),
    lambda number: ("do", 0, 0, ("free", 0, number, None)), lambda number: ("do", 0, 0, ("free", 0, 0, number)),
    lambda number: ("do", 0, 0, ("watch", number, True, 20)), lambda number: ("do", 0, 0, ("watch", 0, True, number)),
    lambda number: ("do", 0, 0, ("taken", number)), lambda number: ("do", 0, 0, ("look", number)),
    lambda number: ("begin", 0, 0, ("walk", number)), lambda number: ("begin", 0, 0, ("copy", "a", number, "b")),
]
GREATEST = 999999999


class TestFigures(unittest.TestCase):
    def test_nine_figures_are_written_and_read_back(self):
        for made in WITH_NUMBERS:
            for number in (0, 9, 100000000, GREATEST - 1, GREATEST):
                row = made(number)
                text = shown([GOOD, row])
                self.assertIn(str(number), text.split("\n")[1].split(" "))
                self.assertEqual(read_rows(text), [GOOD, row])

    def test_ten_figures_are_refused_both_ways(self):
        for made in WITH_NUMBERS:
            for number in (GREATEST + 1, GREATEST + 2, 10 ** 10, 10 ** 30, 10 ** 5000):
                with self.assertRaises(NoWeaving) as caught:
                    shown([GOOD, made(number), GOOD])
                self.assertEqual(caught.exception.number, 1, made(0))
            text = shown([GOOD, made(GREATEST), GOOD])
            for figures in (str(GREATEST + 1), "9" * 10, "0" + str(GREATEST), "9" * 5000):
                with self.assertRaises(NoText) as caught:
                    read_rows(text.replace(str(GREATEST), figures))
                self.assertEqual(caught.exception.number, 1, made(0))


class TestRead(unittest.TestCase):
    def none(self, text, number):
        with self.assertRaises(NoText) as caught:
            read_rows(text)
        self.assertEqual(caught.exception.number, number, text)

    def test_bent_rows(self):
        cases = [
            " ", "do", "do 0", "do 0 0", "do 0 0 ", "do 0 0 leave ", " do 0 0 leave", "do  0 0 leave", "do 0 0  leave",
            "do 0 0 leave 0", "do 0 0 keep names", "do 0 0 keep", "do 0 0 keep-names 0", "do 0 0 all \\e", "do 0 0 all",
            "do 00 0 leave", "do 01 0 leave", "do -1 0 leave", "do 0 1000000000 leave", "do 0 +1 leave", "do 0 a leave",
            "do - 0 leave", "DO 0 0 leave", "do 0 0 Leave", "do 0 0 going a", "begin 0 0 read a", "begin 0 0 going",
            "begin 0 0 copy a - b", "begin 0 0 copy a b", "step", "step 0 0", "step -", "step a", "fall 0", "fall 0 -", "fall 0 0 0",
            "fall", "leave", "do 0 0 read A", "do 0 0 read a//b", "do 0 0 read \\e", "do 0 0 make a folders", "do 0 0 make a link:",
            "do 0 0 make a link:A", "do 0 0 make a link", "do 0 0 make a Folder", "do 0 0 lock 0 0 - maybe", "do 0 0 lock 0 0 - True",
            "do 0 0 lock - 0 5 no", "do 0 0 lock 0 - 5 no", "do 0 0 watch - yes 20", "do 0 0 globbed ***", "do 0 0 globbed A",
            "do 0 0 write 0 0 \\", "do 0 0 write 0 0 a\\", "do 0 0 write 0 0 \\x", "do 0 0 write 0 0 \\ea", "do 0 0 write 0 0 a\\e",
            "do 0 0 write 0 0 \\S", "do 0 0 write 0 0 " + "x" * 201, "do 0 0 write 0 0 \t", "do 0 0 write 0 0 " + "\\s" * 201,
            "begin 0 0 whole a " + "x" * 201 + " b", "do 0 0 unpacked a \t", "do 0 0 text 0x", "do 0 0 text \\e", "do 0 0 text 1\r",
        ]
        good = "do 0 0 leave"
        for row in cases:
            self.none(row, 0)
            self.none(f"{good}\n{good}\n{row}\n{row}", 2)
            self.none(f"{row}\n{good}", 0)
        self.assertEqual(len(read_rows(f"{good}\n{good}")), 2)

    def test_rows_without_signs(self):
        self.none("\n", 0)
        self.none("step 0\n", 1)
        self.none("\nstep 0", 0)
        self.none("step 0\n\nstep 0", 1)

    def test_anything(self):
        for thing in (*ODD, [], (), ["step 0"]):
            self.none(thing, 0)

    def test_no_figures_but_these(self):
        self.none("step \u0661", 0)
        self.none("step \u00b2", 0)
        self.none("do 0 0 read \u00e4", 0)
        self.none("do 0 0 write 0 0 \u00e4", 0)

    def test_200_signs_that_are_escaped(self):
        text = "do 0 0 write 0 0 " + "\\n" * 200
        self.assertEqual(read_rows(text), [("do", 0, 0, ("write", 0, 0, "\n" * 200))])

    def test_told_lists_are_the_askers_own(self):
        read_rows("step 0").append(1)
        self.assertEqual(read_rows("step 0"), [("step", 0)])

    def test_there_and_back_by_chance(self):
        shown_ones = 0
        for seed in range(80):
            _, rows = drawn_world(random.Random(seed), 40)
            for row in rows:
                try:
                    text = shown([row])
                except NoWeaving:
                    continue
                self.assertEqual(repr(read_rows(text)), repr([row]))
                shown_ones += 1
        self.assertGreater(shown_ones, 2500)

    def test_what_is_read_is_written_so(self):
        signs = "do 0 0 write 1 2 \\s\\\\\\n\\e-x"
        for seed in range(3000):
            chance = random.Random(seed)
            place = chance.randrange(len(signs))
            bent = signs[:place] + chance.choice(" \\\nse0-1a") + signs[place + chance.randrange(2):]
            try:
                rows = read_rows(bent)
            except NoText:
                continue
            self.assertEqual(shown(rows), bent)

    def test_archives_are_any_text(self):
        text = archive("folder 0 .", "file 0 3 a\n\\ \n")
        rows = [("begin", 0, 0, ("unpack", "/", text))]
        self.assertEqual(read_rows(shown(rows)), rows)


if __name__ == "__main__":
    unittest.main()
