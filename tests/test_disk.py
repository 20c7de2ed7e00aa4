"""Points 20, 21 and 22: disks, the choices of falls, falls, and (f) of point 3."""

import copy
import itertools
import random
import unittest

from onehistory.disk import Disk
from onehistory.errors import NoChoice, NoHandle, NoMoment, TooMany
from onehistory.house import House
from tests.naive import Naive, behind, some_change, told
from tests.test_tree import FILE, FOLDER
from tests.things import NO_NUMBERS, ODD

# A file f 1 with a text, a folder a 2.
BEGUN = (("make", 0, "f", 1, FILE), ("write", 1, 0, "old"), ("make", 0, "a", 2, FOLDER))
NO_COUNTS = tuple(odd for odd in NO_NUMBERS if odd != 10 ** 29)


def begun(*changes):
    """A disk of a house with a beginning that is sure, and with changes behind it."""
    disk = Disk(House(BEGUN))
    for change in changes:
        disk.house().change(change)
    return disk


def numbers(disk):
    return [number for number, _ in disk.unsure()]


class TestWhatIsSure(unittest.TestCase):
    def test_what_stands_as_it_is_made(self):
        for house in (House(), House(BEGUN), House(BEGUN + (("cut back", 1),))):
            disk = Disk(house=house)
            self.assertIs(disk.house(), house)
            self.assertEqual((disk.unsure(), disk.sure(), len(disk), disk.renumbered()), ([], house.moment(), 0, {}))
            self.assertEqual(disk.choices(), [(0, ())])

    def test_each_word_counts(self):
        changes = (
            ("make", 0, "b", 3, FOLDER), ("write", 1, 0, "n"), ("name", 3, "f", 1), ("cut", 1, 2), ("mark", 1, 7),
            ("move", 0, "b", 2, "b"), ("exchange", 0, "f", 2, "b"), ("all", (("write", 1, 0, "x"),)), ("strike", 2, "b"),
        )
        disk = begun(*changes)
        self.assertEqual(disk.unsure(), list(enumerate(changes, start=3)))
        self.assertEqual((disk.sure(), len(disk)), (3, 9))
        self.assertEqual(disk.keep_names(), 12)
        self.assertEqual((disk.unsure(), disk.sure(), len(disk)), ([(4, changes[1]), (6, changes[3])], 4, 2))

    def test_names_kept(self):
        disk = begun(("mark", 0, 1), ("write", 1, 0, "n"))
        self.assertEqual((disk.keep_names(), numbers(disk), disk.sure()), (5, [4], 4))
        disk.house().mark("/", 2)
        self.assertEqual((numbers(disk), disk.sure(), len(disk)), ([4, 5], 4, 2))
        self.assertEqual((disk.keep_names(), numbers(disk)), (6, [4]))

    def test_a_file_kept_by_its_handle(self):
        disk = begun(("make", 0, "g", 3, FILE), ("write", 3, 0, "g"), ("write", 1, 0, "n"), ("cut", 1, 1))
        handle = disk.house().grasp("f")
        self.assertEqual((disk.keep(handle=handle), numbers(disk)), (7, [3, 4]))
        disk.house().write(handle, 0, "m")
        self.assertEqual((numbers(disk), disk.sure()), ([3, 4, 7], 3))
        self.assertEqual((disk.keep_names(), numbers(disk), disk.sure()), (8, [4, 7], 4))
        # By its handle, wherever its name is, and where it has none.
        disk.house().strike("f")
        self.assertEqual((disk.keep(handle), numbers(disk)), (9, [4, 8]))

    def test_an_all_that_writes_the_file_counts_to_the_names(self):
        house = House(BEGUN)
        disk = Disk(house)
        handle = house.grasp("f")
        house.mark("/", 1)                                              # 3
        house.write(handle, 0, "n")                                     # 4
        house.do_all([("write", 1, 0, "m")])                            # 5
        house.mark("/", 2)                                              # 6
        house.do_all([("mark", 1, 4), ("cut", 1, 1)])                   # 7
        house.mark("/", 3)                                              # 8
        house.do_all([("mark", 1, 5), ("make", 0, "g", 3, FILE)])       # 9
        house.do_all([("write", 3, 0, "g")])                            # 10
        self.assertEqual(numbers(disk), list(range(3, 11)))
        self.assertEqual((disk.keep(handle), numbers(disk), disk.sure()), (11, [8, 9, 10], 8))
        other = house.grasp("g")
        self.assertEqual((disk.keep(other), numbers(disk), disk.sure()), (11, [], 11))

    def test_a_file_kept_keeps_no_other_names(self):
        disk = begun(("make", 0, "g", 3, FILE), ("write", 3, 0, "g"))
        handle = disk.house().grasp("g")
        disk.keep(handle)
        self.assertEqual((disk.unsure(), disk.sure()), ([(3, ("make", 0, "g", 3, FILE))], 3))

    def test_no_handles(self):
        disk = begun(("write", 1, 0, "n"))
        handle = disk.house().grasp("f")
        disk.house().close(handle)
        for odd in NO_NUMBERS + (handle, 1, 99):
            with self.assertRaises(NoHandle) as caught:
                disk.keep(odd)
            self.assertIs(caught.exception.thing, odd)
        self.assertEqual(numbers(disk), [3])

    def test_told_lists_are_the_askers_own(self):
        disk = begun(("make", 0, "g", 3, FILE), ("write", 1, 0, "n"))
        disk.unsure().clear()
        disk.choices().clear()
        disk.renumbered()[1] = 2
        self.assertEqual((numbers(disk), len(disk.choices()), disk.renumbered()), ([3, 4], 4, {}))
        disk.fall((1, ((1, 0, 0),)))
        disk.renumbered().clear()
        disk.fall((0, ()))
        disk.house().make("h", FILE)
        disk.fall((1, ()))
        self.assertEqual(disk.renumbered(), {})


class TestChoices(unittest.TestCase):
    def test_names_alone(self):
        disk = begun(("mark", 0, 1), ("make", 0, "g", 3, FILE), ("strike", 0, "g"))
        self.assertEqual(disk.choices(), [(0, ()), (1, ()), (2, ()), (3, ())])
        disk.keep_names()
        self.assertEqual(disk.choices(), [(0, ())])
        disk.house().mark("/", 2)
        self.assertEqual(disk.choices(), [(0, ()), (1, ())])

    def test_a_file_alone(self):
        disk = begun(("write", 1, 0, "new"), ("cut", 1, 1), ("write", 1, 1, ""), ("write", 1, 1, "x"))
        self.assertEqual(disk.choices(), [
            (0, ((1, 0, 0),)), (0, ((1, 0, 1),)), (0, ((1, 0, 2),)), (0, ((1, 1, 0),)), (0, ((1, 2, 0),)),
            (0, ((1, 3, 0),)), (0, ((1, 4, 0),)),
        ])

    def test_a_file_that_is_there_by_the_names(self):
        disk = begun(("make", 0, "g", 3, FILE), ("write", 3, 0, "x"), ("write", 1, 0, "n"))
        self.assertEqual(disk.choices(), [
            (0, ((1, 0, 0),)), (0, ((1, 1, 0),)),
            (1, ((1, 0, 0), (3, 0, 0))), (1, ((1, 0, 0), (3, 1, 0))), (1, ((1, 1, 0), (3, 0, 0))),
            (1, ((1, 1, 0), (3, 1, 0))),
        ])

    def test_kept_files_have_no_part(self):
        disk = begun(("write", 1, 0, "n"), ("make", 0, "g", 3, FILE), ("write", 3, 0, "x"))
        disk.keep(disk.house().grasp("f"))
        self.assertEqual(disk.choices(), [(0, ()), (1, ((3, 0, 0),)), (1, ((3, 1, 0),))])
        disk.keep(disk.house().grasp("g"))
        self.assertEqual(disk.choices(), [(0, ()), (1, ())])

    def test_behind_kept_ones(self):
        disk = begun(("write", 1, 0, "n"))
        handle = disk.house().grasp("f")
        disk.keep(handle)
        disk.house().cut(handle, 1)
        self.assertEqual(disk.choices(), [(0, ((1, 0, 0),)), (0, ((1, 1, 0),))])

    def test_an_all_that_writes_a_file(self):
        disk = begun(("write", 1, 0, "ab"), ("all", (("write", 1, 0, "cd"), ("mark", 1, 1))), ("write", 1, 0, "ef"))
        self.assertEqual(disk.choices(), [
            # It isn't there: so neither is the write behind it, nor one sign of that.
            (0, ((1, 0, 0),)), (0, ((1, 0, 1),)), (0, ((1, 1, 0),)),
            # It is there: so is the write ahead of it.
            (1, ((1, 1, 0),)), (1, ((1, 1, 1),)), (1, ((1, 2, 0),)),
        ])
        disk.keep_names()
        self.assertEqual(disk.choices(), [(0, ((1, 1, 0),)), (0, ((1, 1, 1),)), (0, ((1, 2, 0),))])

    def test_between_two_alls(self):
        disk = begun(("write", 1, 0, "a"), ("all", (("cut", 1, 1),)), ("write", 1, 0, "bb"), ("all", (("cut", 1, 0),)),
                     ("write", 1, 0, "c"), ("all", (("mark", 1, 0),)))
        self.assertEqual(disk.choices(), [
            (0, ((1, 0, 0),)), (0, ((1, 1, 0),)), (1, ((1, 1, 0),)), (1, ((1, 1, 1),)), (1, ((1, 2, 0),)),
            (2, ((1, 2, 0),)), (2, ((1, 3, 0),)), (3, ((1, 2, 0),)), (3, ((1, 3, 0),)),
        ])

    def test_an_all_that_makes_and_writes(self):
        disk = begun(("all", (("make", 0, "g", 3, FILE), ("write", 3, 0, "x"))), ("write", 3, 0, "yz"))
        self.assertEqual(disk.choices(), [(0, ()), (1, ((3, 0, 0),)), (1, ((3, 0, 1),)), (1, ((3, 1, 0),))])

    def test_at_most_so_many(self):
        for changes, many in (
            ((), 1), ((("mark", 0, 1),), 2), ((("write", 1, 0, "n" * 100),), 101),
            ((("make", 0, "g", 3, FILE), ("write", 3, 0, "xx"), ("write", 1, 0, "yyy")), 4 + 12),
        ):
            disk = begun(*changes)
            due = disk.choices(most=many)
            self.assertEqual((len(due), len(set(due)), due), (many, many, sorted(due)))
            self.assertEqual(disk.choices(most=10 ** 29), due)
            self.assertEqual(disk.choices(), due)
            for most in {0, many - 1}:
                with self.assertRaises(TooMany) as caught:
                    disk.choices(most=most)
                self.assertEqual(caught.exception.many, most)
        disk = begun(("write", 1, 0, "n" * 199))
        self.assertEqual(len(disk.choices()), 200)
        disk.house().mark("/", 1)
        with self.assertRaises(TooMany) as caught:
            disk.choices()
        self.assertEqual(caught.exception.many, 200)
        self.assertEqual(len(disk.choices(most=400)), 400)
        self.assertRaises(TypeError, disk.choices, 400)

    def test_far_too_many(self):
        # Neither found by making all.
        house = House(tuple(("make", 0, "f" + "abcdefghijklmnopqrst"[number], number + 1, FILE) for number in range(20)))
        disk = Disk(house)
        for number in range(20):
            house.change(("write", number + 1, 0, "x" * 199))
        with self.assertRaises(TooMany) as caught:
            disk.choices(most=10 ** 29)
        self.assertEqual(caught.exception.many, 10 ** 29)
        self.assertEqual(disk.choice_by(200 ** 13 * 7), (0, tuple((file, 0, 7 * (file == 14)) for file in range(1, 21))))
        self.assertEqual(disk.choice_by(199), (0, ((1, 1, 0), *((file, 0, 0) for file in range(2, 21)))))

    def test_no_most(self):
        for odd in NO_COUNTS:
            with self.assertRaises(NoMoment) as caught:
                begun().choices(most=odd)
            self.assertIs(caught.exception.thing, odd)


class TestIsChoice(unittest.TestCase):
    DUE = (2, ((1, 3, 1), (3, 0, 0), (4, 1, 2)))

    def disk(self):
        disk = begun(
            ("make", 0, "g", 3, FILE), ("write", 1, 0, "k"), ("write", 3, 0, "gg"), ("make", 0, "h", 4, FILE),
            ("write", 4, 0, "h"), ("write", 4, 1, "hhh"), ("write", 1, 0, "b"), ("cut", 1, 1), ("write", 1, 0, "cc"),
            ("mark", 0, 1),
        )
        return disk

    def test_each_told_one(self):
        disk = self.disk()
        due = disk.choices(most=1000)
        self.assertIn(self.DUE, due)
        for choice in due:
            self.assertIs(disk.is_choice(thing=choice), True)

    def test_of_anything(self):
        disk = self.disk()
        names, files = self.DUE
        self.assertIs(disk.is_choice(self.DUE), True)
        for thing in ODD + NO_NUMBERS + (
            (), (2,), (names, files, 0), [names, files], (names, list(files)), (files, names), (names, None), (None, files),
            (2.0, files), (True, files), ("2", files), (-1, files), (4, files), (10 ** 29, files), (0, files), (1, files),
            (names, ()), (names, files[:2]), (names, files[1:]), (names, files[:1] + files[2:]),
            (names, files + files[2:]), (names, files + ((5, 0, 0),)), (names, files + ((2, 0, 0),)),
            (names, (files[1], files[0], files[2])), (names, files[::-1]), (names, (files[0], files[0], files[2])),
            (names, ((0, 0, 0), *files)), (names, (files,)), (names, ((1, 2), (3, 0), (4, 1))), {names: files},
        ):
            self.assertIs(disk.is_choice(thing), False)

    def test_each_number_bent(self):
        disk = self.disk()
        names, files = self.DUE
        allowed = {choice[1] for choice in disk.choices(most=1000) if choice[0] == names}
        for place, which in itertools.product(range(3), range(3)):
            for odd in NO_NUMBERS + (0, 1, 2, 3, 4, 5, float(files[place][which])):
                bent = list(files[place])
                bent[which] = odd
                thing = (*files[:place], tuple(bent), *files[place + 1:])
                due = isinstance(odd, int) and not isinstance(odd, bool) and thing in allowed
                self.assertIs(disk.is_choice((names, thing)), due)
            self.assertIs(disk.is_choice((names, (*files[:place], list(files[place]), *files[place + 1:]))), False)
        for odd in (True, False):
            for thing in ((2, ((odd, 3, 1), *files[1:])), (2, ((1, 3, odd), *files[1:])), (odd, ())):
                self.assertIs(disk.is_choice(thing), False)
        self.assertIs(begun().is_choice((0, ())), True)
        self.assertIs(begun().is_choice((False, ())), False)

    def test_less_than_is_kept_and_more_than_there_are(self):
        disk = self.disk()
        disk.keep_names()
        disk.keep(disk.house().grasp("f"))
        self.assertEqual(len(disk), 3)
        for thing in (self.DUE, (3, ((3, 0, 0), (4, 0, 0))), (1, ((3, 0, 0), (4, 0, 0))), (0, ((1, 0, 0), (3, 0, 0), (4, 0, 0))),
                      (0, ((3, 2, 0), (4, 0, 0))), (0, ((3, 1, 1), (4, 0, 0))), (0, ((3, 0, 2), (4, 0, 0)))):
            self.assertIs(disk.is_choice(thing), False)
        self.assertIs(disk.is_choice((0, ((3, 0, 1), (4, 2, 0)))), True)


class TestChoiceBy(unittest.TestCase):
    def test_by_hand(self):
        disk = begun(("make", 0, "g", 3, FILE), ("write", 3, 0, "x"), ("write", 1, 0, "nn"))
        # By 2 the names, then by 3 the first file, then by 2 the other one.
        for number, due in (
            (0, (0, ((1, 0, 0),))), (1, (1, ((1, 0, 0), (3, 0, 0)))), (2, (0, ((1, 0, 1),))),
            (3, (1, ((1, 0, 1), (3, 0, 0)))), (4, (0, ((1, 1, 0),))), (5, (1, ((1, 1, 0), (3, 0, 0)))),
            (6, (0, ((1, 0, 0),))), (7, (1, ((1, 0, 0), (3, 1, 0)))), (9, (1, ((1, 0, 1), (3, 1, 0)))),
            (11, (1, ((1, 1, 0), (3, 1, 0)))), (13, (1, ((1, 0, 0), (3, 0, 0)))),
        ):
            self.assertEqual(disk.choice_by(number=number), due)

    def test_of_every_number_of_a_whole_turn(self):
        disk = begun(("make", 0, "g", 3, FILE), ("write", 3, 0, "x"), ("all", (("write", 3, 0, "y"),)),
                     ("write", 3, 0, "zz"), ("write", 1, 0, "nn"))
        due = disk.choices()
        turn = 3 * 3 * 6
        found = [disk.choice_by(number) for number in range(turn)]
        self.assertEqual(sorted(set(found)), due)
        self.assertEqual([disk.choice_by(number) for number in range(turn, 3 * turn)], found + found)
        self.assertIn(disk.choice_by(10 ** 29 + 7), due)

    def test_no_number(self):
        for odd in NO_COUNTS:
            with self.assertRaises(NoMoment) as caught:
                begun().choice_by(odd)
            self.assertIs(caught.exception.thing, odd)


class TestFall(unittest.TestCase):
    def row_behind(self, disk, choice, moment):
        """The entries behind the cut back, to the moment that is told."""
        ahead = disk.house().row()
        told = disk.fall(choice)
        row = disk.house().row()
        self.assertEqual((row[:len(ahead)], row[len(ahead)]), (ahead, ("cut back", moment)))
        self.assertEqual((told, disk.house().moment()), (len(row), len(row)))
        self.assertEqual((disk.unsure(), disk.sure(), len(disk), disk.choices()), ([], len(row), 0, [(0, ())]))
        return row[len(ahead) + 1:]

    def test_all_there(self):
        disk = begun(("make", 0, "g", 3, FILE), ("write", 3, 0, "x"))
        self.assertEqual(self.row_behind(disk, (1, ((3, 1, 0),)), 5), [])
        self.assertEqual((disk.house().falls(), disk.renumbered(), disk.house().read("g")), (1, {}, "x"))
        # Where there is nothing that isn't sure, too.
        self.assertEqual(self.row_behind(disk, (0, ()), 6), [])

    def test_none_there(self):
        disk = begun(("make", 0, "g", 3, FILE), ("write", 3, 0, "x"), ("write", 1, 0, "n"))
        self.assertEqual(self.row_behind(disk, (0, ((1, 0, 0),)), 3), [])
        self.assertEqual((disk.house().listed("."), disk.house().read("f"), disk.house().now().last()), (["a", "f"], "old", 3))

    def test_some_there(self):
        disk = begun(("write", 1, 0, "n"), ("write", 1, 1, "m"), ("mark", 1, 5), ("cut", 1, 2), ("mark", 1, 6))
        # Of the names both, of the file the first one: cut back to the first that isn't there.
        self.assertEqual(self.row_behind(disk, (2, ((1, 1, 0),)), 4), [("mark", 1, 5), ("mark", 1, 6)])
        self.assertEqual((disk.house().read("f"), disk.renumbered()), ("nld", {}))

    def test_torn_writes(self):
        for signs in range(4):
            disk = begun(("mark", 1, 5), ("write", 1, 1, "wxyz"), ("mark", 1, 6))
            behind_it = [("write", 1, 1, "wxyz"[:signs])] if signs else []
            self.assertEqual(self.row_behind(disk, (2, ((1, 0, signs),)), 4), behind_it + [("mark", 1, 6)])
            self.assertEqual(disk.house().read("f"), ("old", "owd", "owx", "owxy")[signs])

    def test_a_torn_write_alone(self):
        disk = begun(("write", 1, 0, "new"))
        self.assertEqual(self.row_behind(disk, (0, ((1, 0, 2),)), 3), [("write", 1, 0, "ne")])
        self.assertEqual(disk.house().read("f"), "ned")

    def test_writes_without_signs(self):
        disk = begun(("mark", 0, 1), ("write", 1, 0, ""), ("write", 1, 0, "n"))
        self.assertEqual(self.row_behind(disk.twin(), (0, ((1, 1, 0),)), 3), [("write", 1, 0, "")])
        self.assertEqual(self.row_behind(disk, (0, ((1, 0, 0),)), 3), [])

    def test_things_made_anew(self):
        changes = (
            ("write", 1, 0, "n"), ("make", 0, "b", 3, FOLDER), ("make", 3, "g", 4, FILE), ("write", 4, 0, "gg"),
            ("name", 3, "h", 4), ("make", 0, "l", 5, ("link", "b")), ("mark", 5, 9), ("move", 3, "h", 2, "i"),
            ("exchange", 3, "g", 0, "l"), ("strike", 3, "g"), ("cut", 4, 1),
            ("all", (("make", 3, "z", 6, FOLDER), ("make", 6, "y", 7, FILE), ("write", 7, 0, "y"), ("mark", 3, 2))),
        )
        disk = begun(*changes)
        self.assertEqual(self.row_behind(disk, (9, ((1, 0, 0), (4, 1, 0))), 3), [
            ("make", 0, "b", 8, FOLDER), ("make", 8, "g", 9, FILE), ("write", 9, 0, "gg"),
            ("name", 8, "h", 9), ("make", 0, "l", 10, ("link", "b")), ("mark", 10, 9), ("move", 8, "h", 2, "i"),
            ("exchange", 8, "g", 0, "l"), ("strike", 8, "g"),
            ("all", (("make", 8, "z", 11, FOLDER), ("make", 11, "y", 12, FILE), ("write", 12, 0, "y"), ("mark", 8, 2))),
        ])
        self.assertEqual(list(disk.renumbered().items()), [(3, 8), (4, 9), (5, 10), (6, 11), (7, 12)])
        self.assertEqual(disk.house().read("l"), "gg")

    def test_things_made_ahead_of_the_cut_keep_their_numbers(self):
        disk = begun(("make", 0, "b", 3, FOLDER), ("write", 1, 0, "n"), ("make", 3, "c", 4, FOLDER), ("mark", 3, 1))
        self.assertEqual(self.row_behind(disk, (3, ((1, 0, 0),)), 4), [("make", 3, "c", 5, FOLDER), ("mark", 3, 1)])
        self.assertEqual(disk.renumbered(), {4: 5})

    def test_what_is_kept_is_there(self):
        disk = begun(("write", 1, 0, "n"), ("make", 0, "g", 3, FILE), ("write", 3, 0, "x"), ("mark", 3, 3))
        handle = disk.house().grasp("g")
        disk.keep(handle)
        # Kept, but its file isn't there.
        self.assertEqual(self.row_behind(disk.twin(), (0, ((1, 0, 0),)), 3), [])
        self.assertEqual(self.row_behind(disk.twin(), (1, ((1, 1, 0),)), 6), [])
        self.assertEqual(self.row_behind(disk, (1, ((1, 0, 0),)), 3), [("make", 0, "g", 4, FILE), ("write", 4, 0, "x")])
        disk = begun(("write", 1, 0, "n"), ("mark", 1, 1), ("write", 1, 0, "m"), ("mark", 1, 2))
        disk.keep_names()
        self.assertEqual(self.row_behind(disk, (0, ((1, 0, 0),)), 3), [("mark", 1, 1), ("mark", 1, 2)])

    def test_handles_are_gone(self):
        disk = begun(("write", 1, 0, "n"))
        handle = disk.house().grasp("f")
        disk.fall((0, ((1, 1, 0),)))
        self.assertEqual(disk.house().opened(), {})
        self.assertRaises(NoHandle, disk.keep, handle)

    def test_no_choices(self):
        disk = begun(("make", 0, "g", 3, FILE), ("write", 3, 0, "x"))
        handle = disk.house().grasp("g")
        row = disk.house().row()
        for thing in ODD + (
            (0, ((3, 0, 0),)), (1, ()), (1, ((3, 0, 1),)), (1, ((3, 2, 0),)), (2, ((3, 0, 0),)), [1, ((3, 0, 0),)],
            (True, ((3, 0, 0),)), (1, [(3, 0, 0)]), (1, ((3, False, 0),)),
        ):
            with self.assertRaises(NoChoice) as caught:
                disk.fall(thing)
            self.assertIs(caught.exception.thing, thing)
            self.assertEqual((disk.house().row(), disk.house().falls(), numbers(disk)), (row, 0, [3, 4]))
            self.assertEqual((disk.house().opened(), disk.renumbered()), ({handle: 3}, {}))

    def test_falls_behind_falls(self):
        disk = begun(("make", 0, "g", 3, FILE), ("write", 1, 0, "n"))
        disk.keep(disk.house().grasp("f"))
        self.assertEqual(disk.fall(choice=(0, ())), 7)
        self.assertEqual(disk.house().row()[5:], [("cut back", 3), ("write", 1, 0, "n")])
        disk.house().make("h", FILE)
        disk.house().make("i", FILE)
        # What was kept of the file ahead of that fall says nothing of what comes behind it.
        disk.house().write(disk.house().grasp("f"), 0, "m")
        self.assertEqual((numbers(disk), disk.sure()), ([7, 8, 9], 7))
        self.assertEqual(self.row_behind(disk, (2, ((1, 0, 0),)), 9), [])
        disk.house().mark("f", 8)
        disk.house().make("j", FOLDER)
        disk.keep_names()
        disk.house().write(disk.house().grasp("f"), 0, "k")
        disk.house().make("j/k", FOLDER)
        self.assertEqual(self.row_behind(disk, (1, ((1, 0, 0),)), 13), [("make", 6, "k", 8, FOLDER)])
        self.assertEqual((disk.renumbered(), disk.house().falls(), disk.house().read("f")), ({7: 8}, 3, "nld"))

    def test_twins(self):
        disk = begun(("write", 1, 0, "x"), ("make", 0, "g", 3, FILE))
        disk.fall((1, ((1, 0, 0),)))
        self.assertEqual(disk.twin().renumbered(), {3: 4})
        disk.twin().renumbered().clear()
        disk.house().make("h", FOLDER)
        disk.house().make("h/i", FOLDER)
        disk.keep_names()
        handle = disk.house().grasp("f")
        disk.house().write(handle, 0, "n")
        other = disk.twin()
        self.assertIs(type(other), Disk)
        self.assertIsNot(other.house(), disk.house())
        self.assertEqual((other.house().row(), other.unsure(), other.sure(), other.renumbered()),
                         (disk.house().row(), disk.unsure(), disk.sure(), disk.renumbered()))
        other.keep(handle)
        other.house().mark("/", 1)
        self.assertEqual((numbers(disk), numbers(other)), ([9], [10]))
        disk.keep_names()
        disk.house().mark("/", 2)
        self.assertEqual((numbers(disk), numbers(other)), ([9, 10], [10]))
        other.fall((0, ()))
        self.assertEqual((disk.house().falls(), other.house().falls(), disk.house().read("f")), (1, 2, "nld"))
        self.assertEqual(numbers(disk), [9, 10])


def counts_to(entry):
    return entry[1] if entry[0] in ("write", "cut") else "names"


def in_all(entry):
    return entry[1] if entry[0] == "all" else (entry,)


def alters(entry, file):
    return entry[0] == "all" and any(one[0] in ("write", "cut") and one[1] == file for one in entry[1])


def by_the_words(row, begin, kept):
    """All choices, as point 21's words are: each way is tried, and let by them or not."""
    pending = range(begin, len(row))
    names = [number for number in pending if counts_to(row[number]) == "names" and number not in kept]
    made_at = {one[3]: number for number in pending for one in in_all(row[number]) if one[0] == "make"}
    found = []
    for many_names in range(len(names) + 1):
        lost = names[many_names:]
        files = sorted({row[number][1] for number in pending if counts_to(row[number]) != "names" and number not in kept})
        files = [file for file in files if made_at.get(file) not in lost]
        parts = []
        for file in files:
            own = [number for number in pending if counts_to(row[number]) == file and number not in kept]
            there = [number for number in pending if alters(row[number], file) and number not in lost]
            gone = [number for number in lost if alters(row[number], file)]
            part = []
            for many in range(len(own) + 1):
                if any(number < one for number in own[many:] for one in there[-1:]):
                    continue
                if any(number > one for number in own[:many] for one in gone[:1]):
                    continue
                most = 0
                if many < len(own) and row[own[many]][0] == "write" and not any(own[many] > one for one in gone[:1]):
                    most = max(0, len(row[own[many]][3]) - 1)
                part += [(file, many, signs) for signs in range(most + 1)]
            parts.append(part)
        found += [(many_names, files) for files in itertools.product(*parts)]
    return found


def what_is_there(row, begin, kept, choice):
    """Of each entry what is there, by its number."""
    names = [number for number in range(begin, len(row)) if counts_to(row[number]) == "names" and number not in kept]
    lost = names[choice[0]:]
    found = {}
    for number in range(begin, len(row)):
        if counts_to(row[number]) == "names" and number not in lost:
            found[number] = row[number]
    made = {one[3]: number for number in range(begin, len(row)) for one in in_all(row[number]) if one[0] == "make"}
    parts = {file: (many, signs) for file, many, signs in choice[1]}
    files = {row[number][1] for number in range(begin, len(row)) if counts_to(row[number]) != "names"}
    for file in files:
        if made.get(file) in lost:
            continue
        own = [number for number in range(begin, len(row)) if counts_to(row[number]) == file]
        found.update({number: row[number] for number in own if number in kept})
        unsure = [number for number in own if number not in kept]
        many, signs = parts.get(file, (0, 0))
        found.update({number: row[number] for number in unsure[:many]})
        if signs:
            word, _, start, text = row[unsure[many]]
            found[unsure[many]] = (word, file, start, text[:signs])
    return found


def renumber(rows, new):
    """What a naive tree tells, its things by their new numbers."""
    def of(thing):
        return new.get(thing, thing)

    return sorted((of(thing), kind, worth, mark, sorted((of(folder), name) for folder, name in places),
                   {name: of(one) for name, one in names.items()}, turns)
                  for thing, kind, worth, mark, places, names, turns in rows)


class ByHand:
    """A disk's house, with what is kept marked number by number."""

    def __init__(self, chance):
        self.chance = chance
        self.disk = Disk(House())
        self.trees = [Naive()]
        self.begin, self.kept = 0, set()

    def row(self):
        return self.disk.house().row()

    def follow(self):
        for entry in self.row()[len(self.trees) - 1:]:
            self.trees.append(behind(self.trees, entry))

    def pending(self, which):
        return [number for number in range(self.begin, len(self.row())) if which(self.row()[number])]

    def go_on(self):
        house, chance = self.disk.house(), self.chance
        last = house.now().last()
        files = [thing for thing in house.now().things() if house.now().kind(thing) == "file"]
        change = some_change(chance, last)
        if files and chance.random() < 0.4:
            file = chance.choice(files)
            text = house.now().text(file)
            change = chance.choice((("write", file, chance.randrange(len(text) + 1), chance.choice(("x", "yz", "", "uvw"))),
                                    ("cut", file, chance.randrange(len(text) + 1))))
            if chance.random() < 0.3:
                change = ("all", (change, ("mark", 0, chance.randrange(9))))
        elif chance.random() < 0.2:
            change = ("all", (("make", 0, chance.choice("abc"), last + 1, FILE), ("write", last + 1, 0, "zz")))
        if house.now().can(change):
            house.change(change)
        if chance.random() < 0.06:
            self.disk.keep_names()
            self.kept |= set(self.pending(lambda entry: counts_to(entry) == "names"))
        if files and chance.random() < 0.1:
            self.keep_file()

    def keep_file(self):
        house = self.disk.house()
        found = [(path, thing) for path, thing in ((path, house.now().names(0).get(path)) for path in "abc")
                 if thing is not None and house.now().kind(thing) == "file"]
        for path, file in found[:1]:
            handle = house.grasp(path)
            self.disk.keep(handle)
            house.close(handle)
            self.kept |= set(self.pending(lambda entry: counts_to(entry) == file))
            alls = self.pending(lambda entry: alters(entry, file))
            if alls:
                names = self.pending(lambda entry: counts_to(entry) == "names")
                self.kept |= {number for number in names if number <= alls[-1]}

    def fall(self, choice):
        """It falls; told is (what its tree tells, what it should tell)."""
        row = self.row()
        self.follow()
        there = what_is_there(row, self.begin, self.kept, choice)
        due = copy.deepcopy(self.trees[self.begin])
        for number in sorted(there):
            for one in in_all(there[number]):
                due.one(*one)
        told_moment = self.disk.fall(choice)
        bent = [number for number in range(self.begin, len(row)) if there.get(number) != row[number]]
        moment = bent[0] if bent else len(row)
        redone = self.row()[len(row) + 1:]
        assert self.row()[:len(row) + 1] == row + [("cut back", moment)]
        assert told_moment == len(self.row())
        assert len(redone) == len([number for number in there if number >= moment])
        self.begin, self.kept = told_moment, set()
        self.follow()
        return renumber(told(self.disk.house().now())[0], {}), renumber(due.told()[0], self.disk.renumbered())


class TestByChance(unittest.TestCase):
    def test_choices_and_falls(self):
        chance = random.Random(21)
        fallen = torn = anew = 0
        for _ in range(700):
            hand = ByHand(chance)
            for _ in range(chance.randrange(1, 4)):
                for _ in range(chance.randrange(1, 18)):
                    hand.go_on()
                self.assertEqual(numbers(hand.disk), [number for number in range(hand.begin, len(hand.row()))
                                                      if number not in hand.kept])
                due = by_the_words(hand.row(), hand.begin, hand.kept)
                if len(due) > 3000:
                    continue
                self.assertEqual(hand.disk.choices(most=len(due)), sorted(due))
                self.assertRaises(TooMany, hand.disk.choices, most=len(due) - 1)
                for choice in chance.sample(due, min(5, len(due))):
                    self.assertIs(hand.disk.is_choice(choice), True)
                    bent = (choice[0], tuple((file, many + chance.choice((-1, 0, 1)), signs + chance.choice((-1, 0, 1)))
                                             for file, many, signs in choice[1]))
                    self.assertIs(hand.disk.is_choice(bent), bent in due)
                    self.assertIs(hand.disk.is_choice((choice[0] + 1, choice[1])), (choice[0] + 1, choice[1]) in due)
                self.assertIn(hand.disk.choice_by(chance.randrange(10 ** 9)), due)
                choice = chance.choice(due)
                torn += any(signs for _, _, signs in choice[1])
                self.assertEqual(*hand.fall(choice))
                anew += bool(hand.disk.renumbered())
                fallen += 1
        self.assertGreater(min(fallen, torn * 2, anew * 2), 100)

    def test_a_whole_turn_of_numbers(self):
        chance = random.Random(22)
        for _ in range(40):
            hand = ByHand(chance)
            for _ in range(9):
                hand.go_on()
            due = by_the_words(hand.row(), hand.begin, hand.kept)
            if len(due) > 60:
                continue
            # The number of a choice, by the numbers that are left, put together again.
            most = 1 + len([number for number in numbers(hand.disk) if counts_to(hand.row()[number]) == "names"])
            for choice in due:
                number = 0
                for place in reversed(range(len(choice[1]))):
                    part = sorted({other[1][place] for other in due if other[0] == choice[0]})
                    number = number * len(part) + part.index(choice[1][place])
                self.assertEqual(hand.disk.choice_by(number * most + choice[0]), choice)


if __name__ == "__main__":
    unittest.main()
