"""Point 4: names, paths, signs."""

import itertools
import unittest

from onehistory.errors import NoPath
from onehistory.names import is_name, is_path, is_signs, joined, parted
from tests.things import ODD

NAMES = ("a", "z", "ab", "abcdefgh", "zzzzzzzz")
NO_NAMES = (
    "", "abcdefghi", "A", "aB", "abC", "a1", "1", "a_", "a-b", "a b", " a", "a ", "a\n", "\na", "a\t", ".", "..", "/",
    "a/b", "/a", "a.", "{", "`", "*", "**", "\u00e9", "\u00df", "a\u0301", "\u0430", "\u01c6", "a" * 9000,
)
# Each path with its parts.
PATHS = {
    "/": (True, ()),
    ".": (False, ()),
    "..": (False, ("..",)),
    "/..": (True, ("..",)),
    "a": (False, ("a",)),
    "/a": (True, ("a",)),
    "abcdefgh": (False, ("abcdefgh",)),
    "a/b": (False, ("a", "b")),
    "../..": (False, ("..", "..")),
    "/../a": (True, ("..", "a")),
    "a/../b": (False, ("a", "..", "b")),
    "a/b/c/d/e/f/g/h": (False, tuple("abcdefgh")),
    "/a/b/c/d/e/f/g/h": (True, tuple("abcdefgh")),
    "../../../../../../../..": (False, ("..",) * 8),
    "/../../../../../../../..": (True, ("..",) * 8),
}
NO_PATHS = (
    "", "//", "a//b", "//a", "a/", "/a/", "../", "/../", "./", "/.", "./a", "a/.", "a/./b", "...", "a/...", "..a",
    "a..", "a.b", "A", "a/B", "/A", " ", " a", "a ", "a /b", "a\n", "\n", "a/\n", "/\n", "a\t", "abcdefghi", "a/abcdefghi",
    "a/b/c/d/e/f/g/h/i", "/a/b/c/d/e/f/g/h/i", "../../../../../../../../..", "a/1", "a\\b", "~", "*", "**", "/ ",
    "\u00e9", "a/\u00e9", "/" * 9, "a/" * 4000, ". ", " .",
)
SIGNS = ("", " ", "~", "\n", "a", "A", "abc DEF 123", "\n\n", "a\nb", "!\"#$%&'()*+,-./:;<=>?@[\\]^_`{|}~", "x" * 200,
         "\n" * 200, " " * 199)
NO_SIGNS = ("\t", "a\tb", "\r", "\r\n", "\x00", "\x1f", "\x7f", "\u0080", "\u00a0", "\u00e9", "\u20ac", "x" * 201,
            "\n" * 201, "x" * 200 + "\n", "x" * 9000, "\x0b", "\x0c", "\u2028")


class TestNames(unittest.TestCase):
    def test_names(self):
        for thing in NAMES:
            with self.subTest(thing):
                self.assertIs(is_name(thing), True)

    def test_all_letters_are_letters_of_names(self):
        for number in range(256):
            self.assertIs(is_name(chr(number)), chr(number) in "abcdefghijklmnopqrstuvwxyz", number)

    def test_no_names(self):
        for thing in NO_NAMES + ODD + ([], (), ["a"], ("a",)):
            with self.subTest(thing=thing):
                self.assertIs(is_name(thing), False)


class TestPaths(unittest.TestCase):
    def test_paths(self):
        for thing in PATHS:
            with self.subTest(thing):
                self.assertIs(is_path(thing), True)

    def test_no_paths(self):
        for thing in NO_PATHS + ODD + ([], (), ["a"], ("a",), b".", b"/", b".."):
            with self.subTest(thing=thing):
                self.assertIs(is_path(thing), False)

    def test_every_short_text_of_these_signs(self):
        for size in range(5):
            for signs in itertools.product("a./A", repeat=size):
                text = "".join(signs)
                steps = (text[1:] if text.startswith("/") else text).split("/")
                told = text in ("/", ".") or all(step == ".." or step in ("a", "aa", "aaa", "aaaa") for step in steps)
                self.assertIs(is_path(text), told, text)


class TestSigns(unittest.TestCase):
    def test_signs(self):
        for thing in SIGNS:
            with self.subTest(thing):
                self.assertIs(is_signs(thing), True)

    def test_no_signs(self):
        for thing in NO_SIGNS + ODD + ([], (), ["a"], ("a",)):
            with self.subTest(thing=thing):
                self.assertIs(is_signs(thing), False)

    def test_each_sign_alone(self):
        for number in range(400):
            self.assertIs(is_signs(chr(number)), 32 <= number <= 126 or number == 10, number)


class TestParted(unittest.TestCase):
    def test_paths_are_parted(self):
        for path, parts in PATHS.items():
            with self.subTest(path):
                told = parted(path)
                self.assertEqual(told, parts)
                self.assertIs(told[0], parts[0])
                self.assertIs(type(told), tuple)
                self.assertIs(type(told[1]), tuple)

    def test_what_is_no_path_is_refused_with_the_very_thing(self):
        for thing in NO_PATHS + ODD + ([], (), ["a"]):
            with self.subTest(thing=thing):
                with self.assertRaises(NoPath) as caught:
                    parted(thing)
                self.assertIs(caught.exception.thing, thing)

    def test_by_name(self):
        self.assertEqual(parted(path="/a"), (True, ("a",)))


class TestJoined(unittest.TestCase):
    def test_there_and_back(self):
        for path, (top, steps) in PATHS.items():
            with self.subTest(path):
                self.assertEqual(joined(steps, top=top), path)
                self.assertEqual(joined(list(steps), top=top), path)
                self.assertEqual(parted(joined(steps, top=top)), (top, steps))

    def test_not_from_the_top_where_it_is_left_out(self):
        self.assertEqual(joined(()), ".")
        self.assertEqual(joined([]), ".")
        self.assertEqual(joined(["a", ".."]), "a/..")
        self.assertEqual(joined(steps=["a"], top=True), "/a")

    def test_top_is_handed_in_by_its_name_alone(self):
        with self.assertRaises(TypeError):
            joined(["a"], True)

    def test_what_is_no_steps_is_refused_with_the_whole_of_it(self):
        wrong = ("", "a", "ab", "/", ["a"] * 9, ("..",) * 9, [""], ["."], ["/"], ["a/b"], ["a", ""], ["A"], [" "],
                 ["abcdefghi"], ["a\n"], ["..."], ["a", None], ("a", True), (0,), [["a"]], [("a",)], [b"a"], [b".."],
                 {"a": 1}, {"a"}, [".", "a"], ["a", {}])
        for thing in wrong + tuple(one for one in ODD):
            for top in (False, True):
                with self.subTest(thing=thing, top=top):
                    with self.assertRaises(NoPath) as caught:
                        joined(thing, top=top)
                    self.assertIs(caught.exception.thing, thing)

    def test_steps_stay_as_they_were(self):
        steps = ["a", ".."]
        joined(steps, top=True)
        self.assertEqual(steps, ["a", ".."])


if __name__ == "__main__":
    unittest.main()
