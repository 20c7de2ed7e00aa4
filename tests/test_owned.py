"""What is handed in and told is nobody else's, and what is just the same."""

import unittest

from onehistory.owned import just_the_same, own
from tests.things import KNOTTED, ODD


def lists_in(thing, deep=0):
    """All lists and dicts in a thing, as deep as worlds tell any."""
    if deep > 8:
        return []
    parts = list(thing.values()) if isinstance(thing, dict) else thing if isinstance(thing, (list, tuple)) else []
    found = [thing] if isinstance(thing, (list, dict)) else []
    for part in parts:
        found.extend(lists_in(part, deep + 1))
    return found


class TestOwn(unittest.TestCase):
    def test_the_same_but_new(self):
        for thing in ([], [1, [2]], ({"a": [1]}, [[[]]]), {"a": {"b": ([],)}}, [({(1, 2): [3]},)], *ODD):
            copied = own(thing)
            self.assertTrue(just_the_same(copied, thing))
            for one in lists_in(copied):
                self.assertFalse(any(one is other for other in lists_in(thing)))

    def test_what_is_changed_in_one_is_not_in_the_other(self):
        thing = [[1, {"a": [2]}], ([3],)]
        copied = own(thing)
        copied[0][1]["a"].append(4)
        copied[1][0].clear()
        copied.append(5)
        self.assertEqual(thing, [[1, {"a": [2]}], ([3],)])


class TestJustTheSame(unittest.TestCase):
    def test_unlike(self):
        for one, other in ((1, True), (0, False), (0, None), ([], ()), ([1], (1,)), ("a", b"a"), ([1], [1, 2]), ((1, [2]), (1, [3])),
                           ({"a": 1}, {"a": True}), ({"a": 1}, {"b": 1}), ({"a": 1}, {}), (1, 1.0), ([[[True]]], [[[1]]])):
            self.assertIs(just_the_same(one, other), False)
            self.assertIs(just_the_same(other, one), False)
            self.assertIs(just_the_same(one, one), True)

    def test_each_is_like_itself_alone(self):
        for number, one in enumerate(ODD):
            self.assertIs(just_the_same(one, one), True)
            for other in ODD[number + 1:]:
                self.assertIs(just_the_same(one, other), False)

    def test_as_deep_as_it_is_looked_at(self):
        for deep in (1, 5, 12, 23, 24, 25, 40):
            one, other, third = 1, 2, 1
            for _ in range(deep):
                one, other, third = [one], [other], [third]
            self.assertIs(just_the_same(one, other), False)
            self.assertIs(just_the_same(one, third), True)

    def test_of_what_holds_itself(self):
        for thing in KNOTTED:
            self.assertIs(just_the_same(own(thing), own(thing)), True)
            self.assertIs(just_the_same(own(own(thing)), thing), True)
            self.assertIs(just_the_same((thing, 1), (own(thing), 2)), False)


if __name__ == "__main__":
    unittest.main()
