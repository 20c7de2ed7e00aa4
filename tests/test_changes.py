"""Point 5: which things are changes, by their form."""

import unittest

from onehistory.changes import is_change
from tests.things import ODD

# Each word, done and bent: what stands at each place is told by its sort.
FORMS = {
    "make": ("number", "name", "number", "what"),
    "write": ("number", "number", "signs"),
    "cut": ("number", "number"),
    "name": ("number", "name", "number"),
    "strike": ("number", "name"),
    "move": ("number", "name", "number", "name"),
    "exchange": ("number", "name", "number", "name"),
    "mark": ("number", "mark"),
}
ANY = (None, True, False, -1, 1.0, b"a", [], {}, (), object())
GOOD = {
    "number": (0, 1, 60, 10 ** 29),
    "name": ("a", "abcdefgh"),
    "mark": (0, 1, 999),
    "signs": ("", "a", " ~\n", "x" * 200),
    "what": (("folder",), ("file",), ("link", "a"), ("link", "/"), ("link", "."), ("link", "../a")),
}
BAD = {
    "number": ANY + ("", "0", "a", [0], (0,)),
    "name": ANY + (0, "", "abcdefghi", "A", "..", ".", "/", "a/b", "a\n", ("a",), ["a"]),
    "mark": ANY + (1000, 1001, 10 ** 29, "0", ""),
    "signs": ANY + (0, "\t", "x" * 201, "\u00e9", ["a"], ("a",)),
    "what": ANY + (
        0, "folder", "file", "link", ("folder", "a"), ("file", ""), ("link",), ("link", ""), ("link", "A"), ("link", "a/"),
        ("link", "a", "b"), ("link", None), ("link", ["a"]), ["folder"], ["file"], ["link", "a"], ("Folder",), ("root",),
        (b"file",), (None,), ("folder", ()), (("folder",),), ([],), ({},),
    ),
}
PLAIN = ("mark", 0, 1)
SAMPLES = tuple((word, *[GOOD[sort][0] for sort in sorts]) for word, sorts in FORMS.items())


class TestSingle(unittest.TestCase):
    def test_each_word_with_what_is_good_at_each_place(self):
        for sample in SAMPLES:
            for at, sort in enumerate(FORMS[sample[0]], start=1):
                for thing in GOOD[sort]:
                    change = (*sample[:at], thing, *sample[at + 1:])
                    with self.subTest(change=change):
                        self.assertIs(is_change(change), True)

    def test_each_word_bent_at_each_place(self):
        for sample in SAMPLES:
            for at, sort in enumerate(FORMS[sample[0]], start=1):
                for thing in BAD[sort]:
                    change = (*sample[:at], thing, *sample[at + 1:])
                    with self.subTest(change=change):
                        self.assertIs(is_change(change), False)

    def test_other_words(self):
        for sample in SAMPLES:
            for word in ("", "Make", "MAKE", "make ", "cut back", "root", "exchang", b"make", None, 0, True, [], ("make",)):
                with self.subTest(word=word, sample=sample):
                    self.assertIs(is_change((word, *sample[1:])), False)

    def test_a_thing_more_or_less(self):
        for sample in SAMPLES:
            for thing in (None, 0, "a", "", ("file",)):
                self.assertIs(is_change((*sample, thing)), False, sample)
            for at in range(len(sample)):
                self.assertIs(is_change((*sample[:at], *sample[at + 1:])), False, sample)
            self.assertIs(is_change(sample[:1]), False, sample)

    def test_a_list_in_the_stead_of_a_tuple(self):
        for sample in SAMPLES:
            self.assertIs(is_change(sample), True)
            self.assertIs(is_change(list(sample)), False)
            self.assertIs(is_change((sample,)), False)

    def test_things_of_every_other_kind(self):
        for thing in ODD + ((), [], "", "make", "all", 0, 1, ("cut back", 0), ("all",), (("mark", 0, 0),)):
            with self.subTest(thing=thing):
                self.assertIs(is_change(thing), False)


class TestAll(unittest.TestCase):
    def test_one_to_two_hundred(self):
        for many, told in ((0, False), (1, True), (2, True), (199, True), (200, True), (201, False), (400, False)):
            with self.subTest(many):
                self.assertIs(is_change(("all", (PLAIN,) * many)), told)

    def test_all_of_each_word(self):
        self.assertIs(is_change(("all", SAMPLES)), True)
        for sample in SAMPLES:
            self.assertIs(is_change(("all", (sample,))), True)

    def test_changes_are_a_tuple(self):
        for changes in ([PLAIN], PLAIN, {PLAIN: 1}, None, "", "a", 1, True, (PLAIN, None), (PLAIN, list(PLAIN)), ((PLAIN,),)):
            with self.subTest(changes=changes):
                self.assertIs(is_change(("all", changes)), False)

    def test_no_all_within_an_all(self):
        self.assertIs(is_change(("all", (("all", (PLAIN,)),))), False)
        self.assertIs(is_change(("all", (PLAIN, ("all", (PLAIN,))))), False)

    def test_each_change_within_is_one_by_its_form(self):
        for bent in (("mark", 0, 1000), ("mark", True, 1), ("make", 0, "A", 1, ("file",)), ("cut back", 0), (), None):
            for at in range(3):
                changes = [PLAIN] * 2
                changes.insert(at, bent)
                self.assertIs(is_change(("all", tuple(changes))), False, bent)

    def test_a_thing_more_or_less(self):
        self.assertIs(is_change(("all",)), False)
        self.assertIs(is_change(("all", (PLAIN,), ())), False)
        self.assertIs(is_change(("all", PLAIN, PLAIN)), False)
        self.assertIs(is_change(["all", (PLAIN,)]), False)


if __name__ == "__main__":
    unittest.main()
