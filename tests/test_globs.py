"""Point 12: patterns, what fits them, and ways."""

import itertools
import random
import re
import unittest

from onehistory.errors import NoPath, NoPattern, NoThing
from onehistory.globs import fits, globbed, is_pattern, walked
from onehistory.tree import Tree
from tests.naive import told
from tests.test_roads import NO_PATHS, some_tree, woods
from tests.test_tree import FILE, FOLDER, planted
from tests.things import NO_NUMBERS, ODD

PATTERNS = (
    "a", "abcdefgh", "?", "*", "**", "????????", "*a*b*c*d", "*?*", "?*?", "a*", "*a", "a/b", "/a", "/**", "/*", "/?",
    "**/**", "a/**/b", "**/a/**", "/**/*", "a/b/c/d/e/f/g/h", "/a/b/c/d/e/f/g/h", "**/**/**/**/**/**/**/**",
    "a*b*c*d*", "*a?*b?*c", "/abcdefgh/????????",
)
NO_PATTERNS = (
    "", "/", "//", ".", "..", "a/..", "../a", "./a", "/a/", "a/", "a//b", "//a", "***", "****", "a**", "**a", "a**b", "?**",
    "**?", "abcdefghi", "?????????", "*a*b*c*d*", "A", "a1", "a b", "a.", "[a]", "a\n", "\n", "a/b/c/d/e/f/g/h/i",
    "**/**/**/**/**/**/**/**/**", "a/*** /b", " *", "* ", "a\\*", "\u00e4", "a/**b", "/a//b", "/ ",
) + ODD + (1, 0, ["a"], ("a",), ["*"], ("*",))

# Each row: a pattern, paths that fit it, paths that don't.
FITTING = (
    ("a", ("a",), ("b", "aa", "/a", "a/a", ".", "/", "..", "a/..")),
    ("/a", ("/a",), ("a", "/b", "/a/a", "/", "/..")),
    ("?", ("a", "z"), ("aa", "a/b", "..", ".", "/a")),
    ("*", ("a", "abcdefgh"), ("a/b", "..", ".", "/", "/a")),
    ("/*", ("/a", "/abcdefgh"), ("/a/b", "/..", "a", "/")),
    ("a*", ("a", "ab", "aaaaaaaa", "abcdefgh"), ("b", "ba", "a/b")),
    ("*a", ("a", "ba", "aaa"), ("b", "ab")),
    ("a*b", ("ab", "aab", "abb", "axyzb"), ("a", "b", "ba", "aba")),
    ("a?b", ("aab", "axb"), ("ab", "axxb")),
    ("?*", ("a", "ab"), ("..",)),
    ("*?*", ("a", "ab", "abc"), ("..", ".")),
    ("?*?", ("ab", "abc"), ("a",)),
    ("*a*b*", ("ab", "xaxbx", "aab"), ("ba", "a", "b")),
    ("*ab*ab", ("abab", "ababab", "xabxab"), ("ab", "aba", "ababa")),
    ("????????", ("abcdefgh",), ("abcdefg", "a")),
    ("**", ("a", "a/b", "a/b/c/d/e/f/g/h"), (".", "/", "..", "a/..", "../a", "/a", "a/../b")),
    ("/**", ("/a", "/a/b", "/a/b/c/d/e/f/g/h"), ("/", "a", "/..", "/a/..", ".")),
    ("**/**", ("a", "a/b"), (".", "/a")),
    ("a/**", ("a", "a/b", "a/b/c"), ("b", "b/a", ".", "a/..")),
    ("**/a", ("a", "b/a", "c/b/a", "a/a"), ("b", "a/b", "../a")),
    ("a/**/b", ("a/b", "a/x/b", "a/x/y/b", "a/b/b"), ("a", "b", "a/b/c", "a/../b")),
    ("**/a/**", ("a", "a/b", "b/a", "b/a/b", "a/a"), ("b", "b/c")),
    ("**/a/**/b/**", ("a/b", "x/a/y/b/z", "a/a/b/b"), ("a", "b", "b/a")),
    ("**/*", ("a", "a/b"), (".", "a/..")),
    ("*/**", ("a", "a/b"), (".", "../a")),
    ("*/*", ("a/b", "abc/abc"), ("a", "a/b/c", "a/..", "../a")),
    ("**/*a/?*/**", ("a/b", "xa/yy/z", "b/a/c"), ("a", "b/b")),
    ("a/b/c/d/e/f/g/h", ("a/b/c/d/e/f/g/h",), ("a/b/c/d/e/f/g", "a/b/c/d/e/f/g/g", "/a/b/c/d/e/f/g/h")),
    ("**/**/**/**/**/**/**/**", ("a", "a/b/c/d/e/f/g/h"), (".",)),
)


def by_rule(pattern, path):
    """Whether a path fits a pattern, by a regular expression."""
    if path in (".", "/") or ".." in path.split("/") or pattern.startswith("/") != path.startswith("/"):
        return False
    rule = ""
    for step in pattern.removeprefix("/").split("/"):
        if step == "**":
            rule += "(?:[a-z]+/)*"
        else:
            rule += step.replace("?", "[a-z]").replace("*", "[a-z]*") + "/"
    return re.fullmatch(rule, path.removeprefix("/") + "/") is not None


class TestPatterns(unittest.TestCase):
    def test_patterns(self):
        for pattern in PATTERNS:
            self.assertIs(is_pattern(pattern), True, pattern)
            self.assertIs(fits(pattern, "zzzzzzzz/a"), by_rule(pattern, "zzzzzzzz/a"), pattern)

    def test_of_anything(self):
        for thing in NO_PATTERNS:
            with self.subTest(thing=thing):
                self.assertIs(is_pattern(thing), False)

    def test_each_short_text(self):
        step = re.compile(r"\*\*|(?!.*\*\*)[a-z?*]{1,8}")
        for many in range(6):
            for signs in itertools.product("a*?/.", repeat=many):
                text = "".join(signs)
                steps = text.removeprefix("/").split("/")
                self.assertIs(is_pattern(text), all(step.fullmatch(one) is not None for one in steps), text)

    def test_fitting(self):
        for pattern, good, bad in FITTING:
            for path in good:
                self.assertIs(fits(pattern, path), True, (pattern, path))
            for path in bad:
                self.assertIs(fits(pattern, path), False, (pattern, path))

    def test_against_regular_expressions(self):
        chance = random.Random(12)
        count = {True: 0, False: 0}
        while min(count.values()) < 400:
            steps = ["".join(chance.choice("aab?*") for _ in range(chance.randrange(1, 5))) for _ in range(4)]
            steps = [chance.choice((step, "**", "*")) for step in steps[:chance.randrange(1, 5)]]
            pattern = chance.choice(("", "", "/")) + "/".join(steps)
            names = ["".join(chance.choice("ab") for _ in range(chance.randrange(1, 4))) for _ in range(chance.randrange(1, 5))]
            path = chance.choice(("", "", "/")) + "/".join(names)
            if is_pattern(pattern):
                told = fits(pattern, path)
                self.assertIs(told, by_rule(pattern, path), (pattern, path))
                count[told] += 1

    def test_refused(self):
        for thing in NO_PATTERNS:
            for path in ("a", "A", None):
                with self.subTest(thing=thing), self.assertRaises(NoPattern) as caught:
                    fits(thing, path)
                self.assertIs(caught.exception.thing, thing)
        for path in NO_PATHS:
            for pattern in ("a", "**", "/*"):
                with self.assertRaises(NoPath) as caught:
                    fits(pattern, path)
                self.assertIs(caught.exception.thing, path)

    def test_by_the_names_of_the_interface(self):
        self.assertIs(is_pattern(thing="*"), True)
        self.assertIs(fits(pattern="*", path="a"), True)
        tree = woods()
        self.assertEqual(globbed(tree=tree, pattern="*", at=1), ["b", "down", "top"])
        self.assertEqual(walked(tree=tree, at=3), [])
        self.assertRaises(TypeError, globbed, tree, "*", 1)
        self.assertRaises(TypeError, walked, tree, 1)


def deep(many):
    """Folders within one another, each called a, and a file b at each depth."""
    changes = []
    for depth in range(many):
        changes += [("make", 2 * depth - 1 if depth else 0, "a", 2 * depth + 1, FOLDER),
                    ("make", 2 * depth + 1, "b", 2 * depth + 2, FILE)]
    return planted(*changes)


class TestGlobbed(unittest.TestCase):
    def test_from_the_root_and_from_elsewhere(self):
        tree = woods()
        self.assertEqual(globbed(tree, "a"), ["a"])
        self.assertEqual(globbed(tree, "a/*"), ["a/b", "a/down", "a/top"])
        self.assertEqual(globbed(tree, "/a/*"), ["/a/b", "/a/down", "/a/top"])
        self.assertEqual(globbed(tree, "/a/*", at=2), ["/a/b", "/a/down", "/a/top"])
        self.assertEqual(globbed(tree, "*", at=2), ["abs", "c", "f", "g", "up"])
        self.assertEqual(globbed(tree, "**", at=1), ["b", "b/abs", "b/c", "b/f", "b/g", "b/up", "down", "top"])
        self.assertEqual(globbed(tree, "?"), ["a", "f", "p", "q"])
        self.assertEqual(globbed(tree, "/**/f"), ["/a/b/f", "/f"])
        self.assertEqual(globbed(tree, "zz"), [])
        self.assertEqual(globbed(tree, "**", at=20), [])
        self.assertEqual(globbed(tree, "/f", at=20), ["/f"])
        self.assertEqual(globbed(Tree(), "**"), [])

    def test_links_are_found_and_not_gone_along(self):
        tree = woods()
        self.assertEqual(globbed(tree, "la"), ["la"])
        self.assertEqual(globbed(tree, "la/*"), [])
        self.assertEqual(globbed(tree, "dot/**"), ["dot"])
        self.assertEqual(globbed(tree, "self/**"), ["self"])

    def test_files_with_several_names(self):
        tree = planted(("make", 0, "b", 1, FOLDER), ("make", 1, "x", 2, FILE), ("name", 0, "x", 2), ("name", 0, "a", 2),
                       ("make", 0, "y", 3, FOLDER), ("make", 3, "a", 4, FOLDER))
        self.assertEqual(globbed(tree, "**"), ["a", "b", "b/x", "x", "y", "y/a"])
        self.assertEqual(globbed(tree, "**/x"), ["b/x", "x"])
        self.assertEqual(walked(tree), [(("a",), 2), (("b",), 1), (("b", "x"), 2), (("x",), 2), (("y",), 3), (("y", "a"), 4)])

    def test_eight_names_and_more(self):
        tree = deep(11)
        due = sorted(["/".join("a" * many) for many in range(1, 9)] + ["/".join("a" * many + "b") for many in range(1, 8)])
        self.assertEqual(globbed(tree, "**"), due)
        self.assertEqual(globbed(tree, "/**"), ["/" + path for path in due])
        self.assertEqual(globbed(tree, "/**", at=5), ["/" + path for path in due])
        self.assertEqual(globbed(tree, "**", at=5), due + ["b"])
        self.assertEqual(globbed(tree, "a/a/a/a/a/a/a/?"), ["a/a/a/a/a/a/a/a", "a/a/a/a/a/a/a/b"])
        self.assertEqual(globbed(tree, "**/b", at=19), ["a/b", "b"])
        ways = walked(tree)
        self.assertEqual(len(ways), 22)
        self.assertEqual(ways, sorted([(("a",) * many, 2 * many - 1) for many in range(1, 12)]
                                      + [(("a",) * many + ("b",), 2 * many) for many in range(1, 12)]))
        self.assertEqual(walked(tree, at=19), [(("a",), 21), (("a", "b"), 22), (("b",), 20)])

    def test_sorted_as_texts_and_as_ways(self):
        tree = planted(("make", 0, "a", 1, FOLDER), ("make", 0, "aa", 2, FOLDER), ("make", 1, "z", 3, FILE),
                       ("make", 2, "b", 4, FILE), ("make", 0, "ab", 5, FILE))
        self.assertEqual(globbed(tree, "**"), ["a", "a/z", "aa", "aa/b", "ab"])
        self.assertEqual(walked(tree), [(("a",), 1), (("a", "z"), 3), (("aa",), 2), (("aa", "b"), 4), (("ab",), 5)])

    def test_refused(self):
        tree = woods()
        before = told(tree)
        for thing in NO_PATTERNS:
            for at in (0, 99, 4, None):
                with self.assertRaises(NoPattern) as caught:
                    globbed(tree, thing, at=at)
                self.assertIs(caught.exception.thing, thing)
        for at in NO_NUMBERS + (4, 5, 21, 24, 99):
            for ask in (lambda: globbed(tree, "*", at=at), lambda: globbed(tree, "/**", at=at), lambda: walked(tree, at=at)):
                with self.assertRaises(NoThing) as caught:
                    ask()
                self.assertIs(caught.exception.thing, at)
        self.assertEqual(told(tree), before)

    def test_what_is_told_is_the_askers_own(self):
        tree = woods()
        before = told(tree)
        globbed(tree, "**").clear()
        walked(tree).clear()
        self.assertEqual((told(tree), len(walked(tree)), len(globbed(tree, "/**"))), (before, 22, 22))
        self.assertEqual({type(way) for way, _ in walked(tree)}, {tuple})

    def test_against_all_paths(self):
        chance = random.Random(12)
        for _ in range(100):
            tree = some_tree(chance)
            folders = [thing for thing in tree.things() if tree.kind(thing) == "folder"]
            for at in folders:
                ways = ways_from(tree, at)
                self.assertEqual(walked(tree, at=at), sorted(ways.items()))
                for pattern in ("*", "**", "?/*", "**/a/**", "/**/b", "/*/*", "a/**"):
                    begin = "/" if pattern[0] == "/" else ""
                    due = ways if not begin else dict(walked(tree))
                    paths = [begin + "/".join(way) for way in due if len(way) <= 8]
                    self.assertEqual(globbed(tree, pattern, at=at), sorted(path for path in paths if by_rule(pattern, path)))


def ways_from(tree, folder):
    """All ways by names from a folder, a dict from ways to things."""
    ways = {}
    for name, thing in tree.names(folder).items():
        ways[name,] = thing
        if tree.kind(thing) == "folder":
            ways.update({(name, *way): other for way, other in ways_from(tree, thing).items()})
    return ways


if __name__ == "__main__":
    unittest.main()
