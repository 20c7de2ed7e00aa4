"""Points 17 and 18: locks, and (e) of point 3."""

import itertools
import random
import unittest

from onehistory.errors import NoStretch, NoWho, Waiting
from onehistory.locks import Locks, bars
from tests.things import NO_NUMBERS, ODD

X, Y, Z = ("owner", 0), ("owner", 1), ("owner", 2)
H, I = ("handle", 0), ("handle", 1)
NOBODY = ODD + (
    "owner", "handle", 0, (), ("owner",), ("owner", 0, 0), ["owner", 0], {"owner": 0}, ("owners", 0), ("Owner", 0),
    ("", 0), (0, "owner"), (b"owner", 0), (None, 0), (["owner"], 0), ("handle", [0]), (("owner", 0), 0),
) + tuple(("owner", number) for number in NO_NUMBERS if number != 10 ** 29)
NO_ENDS = tuple(end for end in NO_NUMBERS if end is not None and end != 10 ** 29) + (0, 3, 4)
NO_STRETCHES = tuple((odd, 4, 9) for odd in NO_NUMBERS if odd != 10 ** 29) \
    + tuple((0, odd, 10 ** 29) for odd in NO_NUMBERS if odd != 10 ** 29) \
    + tuple((0, odd, None) for odd in NO_NUMBERS if odd != 10 ** 29) + tuple((0, 4, odd) for odd in NO_ENDS)


class TestBars(unittest.TestCase):
    def both(self, one, other, due):
        self.assertIs(bars(one, other), due)
        self.assertIs(bars(one=other, other=one), due)

    def test_files(self):
        self.both((0, 0, 9, X, False), (0, 0, 9, Y, False), True)
        self.both((0, 0, 9, X, False), (1, 0, 9, Y, False), False)
        self.both((10 ** 29, 0, 9, X, False), (10 ** 29, 0, 9, Y, False), True)

    def test_who(self):
        for one, other in itertools.product((X, Y, H, I), repeat=2):
            self.both((0, 0, 9, one, False), (0, 0, 9, other, False), one != other)
        self.both((0, 0, 9, ("owner", 0), False), (0, 0, 9, ("handle", 0), False), True)

    def test_stretches(self):
        for begin, end, due in (
            (0, 3, False), (0, 4, True), (3, 4, True), (3, None, True), (0, None, True), (4, 5, True), (5, 6, True),
            (6, 7, False), (6, None, False), (5, None, True), (0, 99, True), (3, 6, True), (7, 9, False), (0, 1, False),
            (10 ** 29, None, False),
        ):
            self.both((0, 3, 6, X, False), (0, begin, end, Y, False), due)
        self.both((0, 3, None, X, False), (0, 10 ** 29, None, Y, False), True)
        self.both((0, 3, None, X, False), (0, 0, 3, Y, False), False)
        self.both((0, 3, None, X, False), (0, 0, 4, Y, False), True)

    def test_shared(self):
        for one, other in itertools.product((True, False), repeat=2):
            self.both((0, 3, 6, X, one), (0, 0, None, Y, other), not (one and other))
            self.both((0, 3, 6, X, one), (0, 6, None, Y, other), False)
            self.both((0, 3, 6, X, one), (0, 3, 6, X, other), False)

    def test_of_nobody_and_no_stretch(self):
        fine = (0, 3, 6, X, False)
        for who in NOBODY:
            for locks in (((0, 3, 6, who, False), fine), (fine, (0, 3, 6, who, False))):
                with self.assertRaises(NoWho) as caught:
                    bars(*locks)
                self.assertIs(caught.exception.thing, who)
        for stretch in NO_STRETCHES:
            for locks in (((*stretch, X, True), fine), (fine, (*stretch, X, True))):
                with self.assertRaises(NoStretch) as caught:
                    bars(*locks)
                self.assertEqual(caught.exception.thing, stretch)


class TestAsk(unittest.TestCase):
    def test_got(self):
        locks = Locks()
        self.assertEqual((locks.held(), locks.waiting(), len(locks)), ([], [], 0))
        self.assertEqual(locks.ask(X, 0, 3, 6), ("got", []))
        self.assertEqual(locks.held(), [(0, 3, 6, X, False)])
        self.assertEqual(locks.ask(Y, 0, 6), ("got", []))
        self.assertEqual(locks.ask(who=Z, file=0, begin=0, end=3, shared=True), ("got", []))
        self.assertEqual(locks.ask(H, 1, 0, None, shared=False), ("got", []))
        self.assertEqual(locks.held(), [
            (0, 0, 3, Z, True), (0, 3, 6, X, False), (0, 6, None, Y, False), (1, 0, None, H, False),
        ])
        self.assertEqual((locks.waiting(), len(locks)), ([], 4))
        self.assertRaises(TypeError, locks.ask, I, 2, 0, 1, True)

    def test_waits_behind_held_locks(self):
        locks = Locks()
        locks.ask(X, 0, 3, 6)
        self.assertEqual(locks.ask(Y, 0, 5, 9), ("waits", []))
        self.assertEqual(locks.ask(Z, 0, 0, 4, shared=True), ("waits", []))
        self.assertEqual(locks.waiting(), [(0, 5, 9, Y, False), (0, 0, 4, Z, True)])
        self.assertEqual((locks.held(), len(locks)), ([(0, 3, 6, X, False)], 1))

    def test_waits_behind_elder_asks(self):
        locks = Locks()
        locks.ask(X, 0, 0, 3, shared=True)
        locks.ask(Y, 0, 2, 9)
        # No held lock bars these, but the one that waits.
        self.assertEqual(locks.ask(Z, 0, 8, None), ("waits", []))
        self.assertEqual(locks.ask(H, 0, 0, 3, shared=True), ("waits", []))
        self.assertEqual(locks.ask(I, 0, 0, 2, shared=True), ("got", []))
        self.assertEqual([ask[3] for ask in locks.waiting()], [Y, Z, H])
        self.assertEqual([lock[3] for lock in locks.held()], [I, X])

    def test_shared_among_shared(self):
        locks = Locks()
        for who in (X, Y, H):
            self.assertEqual(locks.ask(who, 0, 0, shared=True), ("got", []))
        self.assertEqual(locks.ask(Z, 0, 50), ("waits", []))
        self.assertEqual(locks.ask(I, 0, 0, shared=True), ("waits", []))
        self.assertEqual(locks.held(), [(0, 0, None, who, True) for who in (H, X, Y)])

    def test_refusals_in_their_order(self):
        locks = Locks()
        locks.ask(X, 0, 0)
        locks.ask(Y, 0, 0)
        kept = (locks.held(), locks.waiting())
        for who in NOBODY:
            for ask in (lambda: locks.ask(who, 0, 0), lambda: locks.free(who, 0, 0), lambda: locks.leave(who),
                        lambda: locks.drop(who), lambda: locks.ask(who, -1, None), lambda: locks.free(who, 0, 0, 0)):
                with self.assertRaises(NoWho) as caught:
                    ask()
                self.assertIs(caught.exception.thing, who)
        for stretch in NO_STRETCHES:
            for who in (X, Y, Z):
                for ask in (lambda: locks.ask(who, *stretch), lambda: locks.free(who, *stretch),
                            lambda: locks.ask(who, *stretch, shared=True)):
                    with self.assertRaises(NoStretch) as caught:
                        ask()
                    self.assertEqual(caught.exception.thing, stretch)
                    self.assertEqual([type(part) for part in caught.exception.thing], [type(part) for part in stretch])
        with self.assertRaises(NoStretch) as caught:
            locks.ask(X, 0, -1)
        self.assertEqual(caught.exception.thing, (0, -1, None))
        for ask in (lambda: locks.ask(Y, 9, 0), lambda: locks.ask(Y, 0, 0, shared=True), lambda: locks.leave(X),
                    lambda: locks.leave(Z)):
            with self.assertRaises(Waiting) as caught:
                ask()
            self.assertIn(caught.exception.thing, (X, Y, Z))
        self.assertEqual((locks.held(), locks.waiting()), kept)


class TestOwnLocks(unittest.TestCase):
    def after(self, *asks):
        locks = Locks()
        for begin, end, shared in asks:
            self.assertEqual(locks.ask(X, 0, begin, end, shared=shared), ("got", []))
        return [(begin, end, shared) for _, begin, end, _, shared in locks.held()]

    def test_another_sort(self):
        for begin, end, due in (
            (3, 6, [(3, 6, True)]),                                         # the very stretch
            (4, 5, [(3, 4, False), (4, 5, True), (5, 6, False)]),           # within
            (3, 5, [(3, 5, True), (5, 6, False)]),
            (5, 6, [(3, 5, False), (5, 6, True)]),
            (2, 5, [(2, 5, True), (5, 6, False)]),                          # across its begin
            (5, 8, [(3, 5, False), (5, 8, True)]),                          # across its end
            (2, 9, [(2, 9, True)]), (0, None, [(0, None, True)]),           # around it
            (0, 3, [(0, 3, True), (3, 6, False)]),                          # beside it
            (6, None, [(3, 6, False), (6, None, True)]),
            (8, 9, [(3, 6, False), (8, 9, True)]),
        ):
            self.assertEqual(self.after((3, 6, False), (begin, end, True)), due)
            turned = [(one, two, not sort) for one, two, sort in due]
            self.assertEqual(self.after((3, 6, True), (begin, end, False)), turned)

    def test_without_end(self):
        self.assertEqual(self.after((3, None, False), (5, 6, True)), [(3, 5, False), (5, 6, True), (6, None, False)])
        self.assertEqual(self.after((3, None, False), (5, None, True)), [(3, 5, False), (5, None, True)])
        self.assertEqual(self.after((3, None, False), (0, 4, True)), [(0, 4, True), (4, None, False)])

    def test_what_abuts_is_one(self):
        self.assertEqual(self.after((0, 3, False), (3, 6, False)), [(0, 6, False)])
        self.assertEqual(self.after((3, 6, False), (0, 3, False)), [(0, 6, False)])
        self.assertEqual(self.after((0, 3, True), (6, None, True), (3, 6, True)), [(0, None, True)])
        self.assertEqual(self.after((6, 9, True), (0, 3, True), (3, 6, True)), [(0, 9, True)])
        self.assertEqual(self.after((0, 3, False), (3, 6, True)), [(0, 3, False), (3, 6, True)])
        self.assertEqual(self.after((0, 3, False), (4, 6, False)), [(0, 3, False), (4, 6, False)])

    def test_overlapping_is_one(self):
        self.assertEqual(self.after((0, 4, False), (3, 6, False)), [(0, 6, False)])
        self.assertEqual(self.after((3, 4, False), (0, 6, False)), [(0, 6, False)])
        self.assertEqual(self.after((0, 9, False), (3, 6, False)), [(0, 9, False)])
        self.assertEqual(self.after((0, 4, False), (2, 6, True), (2, 6, False)), [(0, 6, False)])
        self.assertEqual(self.after((0, None, False), (2, 6, True), (2, 6, False)), [(0, None, False)])

    def test_only_of_one_who_and_one_file(self):
        locks = Locks()
        for who, file, begin, end in ((X, 0, 0, 3), (Y, 0, 3, 6), (X, 1, 3, 6), (X, 0, 6, 9), (H, 0, 9, 12)):
            locks.ask(who, file, begin, end)
        self.assertEqual(locks.held(), [
            (0, 0, 3, X, False), (0, 3, 6, Y, False), (0, 6, 9, X, False), (0, 9, 12, H, False), (1, 3, 6, X, False),
        ])

    def test_its_own_never_bars(self):
        locks = Locks()
        locks.ask(X, 0, 0, 5)
        locks.ask(Y, 0, 3)
        self.assertEqual(locks.ask(X, 0, 0, 2, shared=True), ("got", []))
        # But an elder ask of another one does.
        self.assertEqual(locks.ask(X, 0, 4, 5), ("waits", []))

    def test_its_sort_turned_in_part(self):
        locks = Locks()
        locks.ask(X, 0, 0, 5)
        locks.ask(Y, 0, 3, 9, shared=True)
        locks.ask(Z, 0, 4, 9, shared=True)
        self.assertEqual(locks.ask(X, 0, 2, 4, shared=True), ("got", []))
        self.assertEqual(locks.held(), [(0, 0, 2, X, False), (0, 2, 4, X, True), (0, 4, 5, X, False)])
        self.assertEqual(locks.ask(X, 0, 4, 5, shared=True), ("got", [Y, Z]))
        self.assertEqual(locks.held()[1], (0, 2, 5, X, True))

    def test_got_in_another_sort_lets_others_get(self):
        locks = Locks()
        locks.ask(X, 0, 0, 9)
        locks.ask(X, 1, 0, 9)
        locks.ask(Y, 0, 0, 3, shared=True)
        locks.ask(Z, 0, 2, 5, shared=True)
        # It is barred by none of these, all being shared.
        self.assertEqual(locks.ask(X, 0, 0, 9, shared=True), ("got", [Y, Z]))
        self.assertEqual(locks.held(), [
            (0, 0, 9, X, True), (0, 0, 3, Y, True), (0, 2, 5, Z, True), (1, 0, 9, X, False),
        ])


class TestFree(unittest.TestCase):
    def after(self, begin, end, held=(3, 6)):
        locks = Locks()
        locks.ask(X, 0, *held)
        self.assertEqual(locks.free(X, 0, begin, end), [])
        return [(begin, end) for _, begin, end, _, _ in locks.held()]

    def test_of_its_own(self):
        for begin, end, due in (
            (3, 6, []), (0, 9, []), (0, None, []), (4, 5, [(3, 4), (5, 6)]), (3, 5, [(5, 6)]), (5, 6, [(3, 5)]),
            (0, 5, [(5, 6)]), (4, None, [(3, 4)]), (0, 3, [(3, 6)]), (6, 9, [(3, 6)]), (8, None, [(3, 6)]),
        ):
            self.assertEqual(self.after(begin, end), due)
        self.assertEqual(self.after(5, 7, (3, None)), [(3, 5), (7, None)])
        self.assertEqual(self.after(0, 7, (3, None)), [(7, None)])
        self.assertEqual(self.after(10 ** 29, None, (3, None)), [(3, 10 ** 29)])

    def test_nobody_elses_and_of_no_other_file(self):
        locks = Locks()
        locks.ask(X, 0, 0, 9)
        locks.ask(Y, 1, 0, 9)
        kept = locks.held()
        self.assertEqual((locks.free(Y, 0, 0), locks.free(X, 1, 0), locks.free(Z, 0, 0)), ([], [], []))
        self.assertEqual(locks.held(), kept)
        self.assertEqual(locks.free(who=X, file=0, begin=0, end=None), [])
        self.assertEqual(locks.held(), [(1, 0, 9, Y, False)])

    def test_several_locks_of_both_sorts(self):
        locks = Locks()
        locks.ask(X, 0, 0, 3)
        locks.ask(X, 0, 3, 6, shared=True)
        locks.ask(X, 0, 8, None)
        self.assertEqual((locks.free(X, 0, 2, 9), len(locks)), ([], 2))
        self.assertEqual(locks.held(), [(0, 0, 2, X, False), (0, 9, None, X, False)])

    def test_in_the_middle_lets_who_waits_get(self):
        locks = Locks()
        locks.ask(X, 0, 0)
        locks.ask(Y, 0, 3, 6)
        locks.ask(Z, 0, 5, 7)
        locks.ask(H, 0, 7, 8)
        self.assertEqual(locks.free(X, 0, 4, 7), [])
        self.assertEqual(locks.free(X, 0, 3, 4), [Y])
        self.assertEqual(locks.free(X, 0, 0), [H])
        self.assertEqual(locks.waiting(), [(0, 5, 7, Z, False)])
        self.assertEqual(locks.free(Y, 0, 3), [Z])

    def test_who_waits_may_free(self):
        locks = Locks()
        locks.ask(X, 0, 0, 5)
        locks.ask(Y, 0, 5, 9)
        locks.ask(X, 0, 5, 9)
        locks.ask(Y, 0, 0, 5)
        self.assertEqual(locks.free(X, 0, 0), [Y])
        self.assertEqual(locks.held(), [(0, 0, 9, Y, False)])
        self.assertEqual(locks.waiting(), [(0, 5, 9, X, False)])


class TestWhoGetsThen(unittest.TestCase):
    def test_in_order_as_far_as_none_bars(self):
        locks = Locks()
        locks.ask(X, 0, 0, 9)
        locks.ask(Y, 0, 0, 5)
        locks.ask(Z, 0, 4, 6)
        locks.ask(H, 0, 5, 9)
        locks.ask(I, 0, 2, 3)
        self.assertEqual(locks.drop(X), [Y])
        # H waits for Z, that is the elder, though none holds what it asks for.
        self.assertEqual([ask[3] for ask in locks.waiting()], [Z, H, I])
        self.assertEqual(locks.leave(Z), [H])
        self.assertEqual(locks.drop(Y), [I])

    def test_several_at_once(self):
        locks = Locks()
        locks.ask(X, 0, 0)
        for who, shared in ((Y, True), (Z, True), (H, False), (I, True)):
            locks.ask(who, 0, 0, shared=shared)
        self.assertEqual(locks.free(X, 0, 0), [Y, Z])
        self.assertEqual(locks.leave(H), [I])
        self.assertEqual([lock[3] for lock in locks.held()], [I, Y, Z])

    def test_what_one_gets_lets_another_get(self):
        locks = Locks()
        locks.ask(X, 0, 0, 9)
        locks.ask(Y, 1, 0, 9)
        locks.ask(Y, 0, 0, 9, shared=True)         # waits for X
        locks.ask(Z, 1, 0, 9, shared=True)         # waits for Y
        self.assertEqual(locks.drop(X), [Y])
        # It gets what it has in the other sort: then an elder one, gone by once, gets too.
        locks = Locks()
        locks.ask(X, 0, 5, 9)
        locks.ask(Y, 0, 0, 5)
        locks.ask(Z, 0, 0, 3, shared=True)         # waits for Y's lock
        locks.ask(Y, 0, 3, 9, shared=True)         # waits for X's
        locks.ask(H, 0, 3, 4, shared=True)         # waits for Y's lock
        self.assertEqual(locks.drop(X), [Y, H])
        self.assertEqual(locks.waiting(), [(0, 0, 3, Z, True)])

    def test_an_elder_one_behind_a_younger(self):
        locks = Locks()
        locks.ask(X, 0, 9, 12)
        locks.ask(Y, 0, 0, 9)
        locks.ask(Z, 0, 0, 3, shared=True)         # waits for Y's lock
        locks.ask(Y, 0, 0, 12, shared=True)        # waits for X's
        self.assertEqual(locks.drop(X), [Y, Z])


class TestLeaveAndDrop(unittest.TestCase):
    def test_leave(self):
        locks = Locks()
        locks.ask(X, 0, 0, 9)
        locks.ask(Y, 1, 0, 9)
        locks.ask(Y, 0, 0, 9)
        self.assertEqual((locks.leave(who=Y), locks.waiting()), ([], []))
        self.assertEqual([lock[3] for lock in locks.held()], [X, Y])
        self.assertRaises(Waiting, locks.leave, Y)

    def test_drop(self):
        locks = Locks()
        locks.ask(X, 0, 0, 9)
        locks.ask(X, 1, 0, shared=True)
        locks.ask(Y, 2, 0)
        locks.ask(Y, 0, 0)
        locks.ask(Z, 1, 0)
        self.assertEqual(locks.drop(who=Y), [])
        self.assertEqual((len(locks), [ask[3] for ask in locks.waiting()]), (2, [Z]))
        self.assertEqual(locks.drop(X), [Z])
        self.assertEqual((locks.held(), locks.waiting()), ([(1, 0, None, Z, False)], []))
        self.assertEqual(locks.drop(H), [])

    def test_drop_of_an_elder_ask(self):
        locks = Locks()
        locks.ask(X, 0, 0, 3)
        locks.ask(Y, 0, 0, 9)
        locks.ask(Z, 0, 5, 9)
        self.assertEqual(locks.drop(Y), [Z])


class TestTold(unittest.TestCase):
    def test_is_waiting(self):
        locks = Locks()
        locks.ask(("handle", 1), 0, 0)
        locks.ask(("owner", 1), 0, 0)
        self.assertIs(locks.is_waiting(("owner", 1)), True)
        for thing in NOBODY + (("handle", 1), ("owner", 0), ("owner", True), ("owner", 1.0), ["owner", 1]):
            self.assertIs(locks.is_waiting(thing), False)
        locks.leave(("owner", 1))
        self.assertIs(locks.is_waiting(who=("owner", 1)), False)

    def test_in_their_order(self):
        locks = Locks()
        for who, file, begin, end in ((("owner", 10), 1, 0, 5), (("owner", 9), 1, 0, 5), (("handle", 11), 1, 0, 5),
                                      (X, 10, 0, 5), (X, 9, 7, None), (X, 9, 2, 3)):
            locks.ask(who, file, begin, end, shared=True)
        self.assertEqual(locks.held(), [
            (1, 0, 5, ("handle", 11), True), (1, 0, 5, ("owner", 9), True), (1, 0, 5, ("owner", 10), True),
            (9, 2, 3, X, True), (9, 7, None, X, True), (10, 0, 5, X, True),
        ])
        for who in (Z, Y, H):
            locks.ask(who, 9, 0)
        self.assertEqual(locks.waiting(), [(9, 0, None, who, False) for who in (Z, Y, H)])
        self.assertEqual(len(locks), 6)

    def test_twins(self):
        locks = Locks()
        locks.ask(X, 0, 0, 5)
        locks.ask(Y, 0, 3, 9)
        other = locks.twin()
        self.assertIs(type(other), Locks)
        self.assertEqual((other.held(), other.waiting(), len(other)), (locks.held(), locks.waiting(), 1))
        self.assertEqual(other.drop(X), [Y])
        other.ask(Z, 5, 0)
        self.assertEqual((locks.held(), locks.waiting()), ([(0, 0, 5, X, False)], [(0, 3, 9, Y, False)]))
        locks.leave(Y)
        locks.ask(H, 0, 9)
        self.assertEqual(other.held(), [(0, 3, 9, Y, False), (5, 0, None, Z, False)])

    def test_told_lists_are_the_askers_own(self):
        locks = Locks()
        locks.ask(X, 0, 0, 5)
        locks.ask(Y, 0, 3, 9)
        locks.held().clear()
        locks.waiting().clear()
        locks.ask(Z, 1, 0)[1].append(X)
        self.assertEqual((len(locks.held()), len(locks.waiting())), (2, 1))
        told = locks.drop(X)
        told.append(Z)
        self.assertEqual(locks.held(), [(0, 3, 9, Y, False), (1, 0, None, Z, False)])


class SignBySign:
    """Locks, told sign by sign: of signs 0 to 11 of each file, the last one standing for all behind it too."""

    SIGNS = 12

    def __init__(self):
        self.has = {}           # (file, sign, who): shared
        self.asks = []

    def signs(self, begin, end):
        return range(begin, self.SIGNS if end is None else end)

    def barred(self, ask, elder):
        file, signs, who, shared = ask
        for (one, sign, other), sort in self.has.items():
            if one == file and sign in signs and other != who and not (sort and shared):
                return True
        return any(one == file and set(other_signs) & set(signs) and other != who and not (sort and shared)
                   for one, other_signs, other, sort in elder)

    def get(self, ask):
        file, signs, who, shared = ask
        self.has.update({(file, sign, who): shared for sign in signs})

    def serve(self):
        got = []
        while True:
            ready = [ask for number, ask in enumerate(self.asks) if not self.barred(ask, self.asks[:number])]
            if not ready:
                return got
            self.asks.remove(ready[0])
            self.get(ready[0])
            got.append(ready[0][2])

    def ask(self, who, file, begin, end, shared):
        ask = (file, self.signs(begin, end), who, shared)
        if self.barred(ask, self.asks):
            self.asks.append(ask)
            return "waits", self.serve()
        self.get(ask)
        return "got", self.serve()

    def free(self, who, file, begin, end):
        for sign in self.signs(begin, end):
            self.has.pop((file, sign, who), None)
        return self.serve()

    def leave(self, who):
        self.asks = [ask for ask in self.asks if ask[2] != who]
        return self.serve()

    def drop(self, who):
        self.has = {key: sort for key, sort in self.has.items() if key[2] != who}
        return self.leave(who)

    def held(self):
        rows = []
        for file, who in sorted({(file, who) for file, _, who in self.has}):
            sorts = [self.has.get((file, sign, who)) for sign in range(self.SIGNS)]
            begin = 0
            for sort, group in itertools.groupby(sorts):
                end = begin + len(list(group))
                if sort is not None:
                    rows.append((file, begin, None if end == self.SIGNS else end, who, sort))
                begin = end
        return sorted(rows, key=lambda lock: (lock[0], lock[1], lock[3]))


class TestByChance(unittest.TestCase):
    def test_against_sign_by_sign(self):
        chance = random.Random(18)
        waited = 0
        for _ in range(150):
            locks, signs = Locks(), SignBySign()
            for _ in range(60):
                who = chance.choice((X, Y, Z, H, I))
                begin = chance.randrange(10)
                stretch = (chance.choice((0, 0, 1)), begin, chance.choice((None, chance.randrange(begin + 1, 12))))
                shared = chance.random() < 0.5
                word = chance.choice(("ask", "ask", "ask", "free", "free", "leave", "drop"))
                if word == "ask" and locks.is_waiting(who):
                    self.assertRaises(Waiting, locks.ask, who, *stretch, shared=shared)
                elif word == "ask":
                    told = locks.ask(who, *stretch, shared=shared)
                    self.assertEqual(told, signs.ask(who, *stretch, shared))
                    waited += told[0] == "waits"
                elif word == "free":
                    self.assertEqual(locks.free(who, *stretch), signs.free(who, *stretch))
                elif word == "drop" and chance.random() < 0.3:
                    self.assertEqual(locks.drop(who), signs.drop(who))
                elif word == "leave" and locks.is_waiting(who):
                    self.assertEqual(locks.leave(who), signs.leave(who))
                self.assertEqual(locks.held(), signs.held())
                self.assertEqual([ask[3] for ask in locks.waiting()], [ask[2] for ask in signs.asks])
                for one, other in itertools.combinations(locks.held(), 2):
                    self.assertIs(bars(one, other), False)
        self.assertGreater(waited, 500)


if __name__ == "__main__":
    unittest.main()
