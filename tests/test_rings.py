"""Point 19: who waits for whom, rings of these, and who gives way."""

import itertools
import random
import unittest

from onehistory.locks import Locks, bars
from onehistory.rings import is_ring, rings, to_give_way, waits_for
from tests.test_locks import NOBODY, H, I, X, Y, Z
from tests.things import ODD


def ring_of(*whos):
    """Locks in which each waits for the next, the last for the first; by files of their own."""
    locks = Locks()
    for file, who in enumerate(whos):
        locks.ask(who, file, 0)
    for file, who in enumerate(whos[-1:] + whos[:-1]):
        locks.ask(who, file, 0)
    return locks


class TestWaitsFor(unittest.TestCase):
    def test_none(self):
        locks = Locks()
        self.assertEqual(waits_for(locks), {})
        locks.ask(X, 0, 0)
        self.assertEqual(waits_for(locks=locks), {})

    def test_in_order(self):
        locks = Locks()
        locks.ask(Z, 0, 0, 5, shared=True)
        locks.ask(X, 0, 3, 9, shared=True)
        locks.ask(I, 0, 8, 9, shared=True)
        locks.ask(Y, 0, 0, 8)
        locks.ask(H, 0, 0, shared=True)
        self.assertEqual(list(waits_for(locks).items()), [(Y, [X, Z]), (H, [Y])])

    def test_held_and_elder_ones_of_one_who(self):
        locks = Locks()
        locks.ask(X, 0, 0, 5)
        locks.ask(Y, 0, 5, 9)
        locks.ask(X, 0, 3, 9, shared=True)      # waits for Y, its own lock aside
        locks.ask(Z, 0, 4, 8)                   # for X, by its lock and its ask, and for Y
        self.assertEqual(list(waits_for(locks).items()), [(X, [Y]), (Z, [X, Y])])

    def test_younger_asks_are_not_waited_for(self):
        locks = Locks()
        locks.ask(X, 0, 0, 3)
        locks.ask(Y, 0, 0, 9)
        locks.ask(Z, 0, 8, 9)
        self.assertEqual(waits_for(locks), {Y: [X], Z: [Y]})

    def test_the_askers_own(self):
        locks = ring_of(X, Y)
        told = waits_for(locks)
        told[X].append(Z)
        del told[Y]
        self.assertEqual(waits_for(locks), {X: [Y], Y: [X]})
        self.assertEqual(list(waits_for(locks)), [Y, X])


class TestRings(unittest.TestCase):
    def test_none(self):
        locks = Locks()
        self.assertEqual((rings(locks), to_give_way(locks)), ([], []))
        locks.ask(X, 0, 0)
        locks.ask(Y, 0, 0)
        locks.ask(Z, 0, 0)
        self.assertEqual((rings(locks), to_give_way(locks)), ([], []))

    def test_of_two_and_more(self):
        for whos in ((X, Y), (Y, X), (Z, H), (X, Y, Z), (Z, Y, X), (I, X, H, Z, Y)):
            locks = ring_of(*whos)
            self.assertEqual(rings(locks), [sorted(whos)])
            self.assertEqual(to_give_way(locks), [min(whos)])
            self.assertIs(is_ring(locks, list(whos)), True)
            self.assertIs(is_ring(locks, list(whos[1:] + whos[:1])), True)
            self.assertIs(is_ring(locks, list(reversed(whos))), len(whos) == 2)

    def test_several(self):
        locks = Locks()
        for file, who in ((0, Y), (1, Z), (2, X), (3, H)):
            locks.ask(who, file, 0)
        for file, who in ((0, Z), (1, Y), (2, H), (3, X)):
            locks.ask(who, file, 0)
        self.assertEqual(rings(locks), [[H, X], [Y, Z]])
        self.assertEqual(to_give_way(locks), [H, Y])
        self.assertIs(is_ring(locks, [X, H]), True)
        self.assertIs(is_ring(locks, [X, Y]), False)

    def test_who_waits_for_a_ring_without_being_in_it(self):
        locks = ring_of(X, Y)
        locks.ask(H, 0, 5)
        self.assertEqual(waits_for(locks)[H], [X, Y])
        self.assertEqual((rings(locks), to_give_way(locks)), ([[X, Y]], [X]))
        for thing in ([H, X], [X, H], [H, X, Y], [X, Y, H]):
            self.assertIs(is_ring(locks, thing), False)

    def test_for_whom_a_ring_waits(self):
        locks = Locks()
        locks.ask(H, 0, 0, shared=True)
        locks.ask(X, 0, 0, shared=True)
        locks.ask(Y, 1, 0)
        locks.ask(Y, 0, 0)
        locks.ask(X, 1, 0)
        self.assertEqual((waits_for(locks), rings(locks)), ({Y: [H, X], X: [Y]}, [[X, Y]]))

    def test_one_lot_of_two_rings(self):
        # X and Y wait for one another, Y and Z too: one lot, by which X comes to Z.
        locks = Locks()
        locks.ask(X, 0, 0, shared=True)
        locks.ask(Z, 0, 0, shared=True)
        locks.ask(Y, 1, 0)
        locks.ask(Y, 0, 0)
        locks.ask(X, 1, 0)
        locks.ask(Z, 1, 0, shared=True)
        self.assertEqual(waits_for(locks), {Y: [X, Z], X: [Y], Z: [X, Y]})
        self.assertEqual((rings(locks), to_give_way(locks)), ([[X, Y, Z]], [X]))
        for thing, due in (([X, Y], True), ([Y, Z], True), ([Z, X, Y], True), ([X, Z], False), ([X, Z, Y], False)):
            self.assertIs(is_ring(locks, thing), due)

    def test_the_askers_own(self):
        locks = ring_of(X, Y)
        rings(locks)[0].clear()
        rings(locks).clear()
        to_give_way(locks).clear()
        self.assertEqual((rings(locks), to_give_way(locks)), ([[X, Y]], [X]))


class TestIsRing(unittest.TestCase):
    def test_of_anything(self):
        locks = ring_of(X, Y)
        self.assertIs(is_ring(locks=locks, thing=[X, Y]), True)
        for thing in ODD + NOBODY + (
            [], [X], [Y], (X, Y), [X, Y, X], [X, Y, X, Y], [X, X], {X: Y, Y: X}, [X, Z], [Z, Y], [X, None], [None, Y],
            [list(X), list(Y)], ["owner", 0], [X, ("owner", True)], [X, ("owner", 1.0)], [("owner", False), Y], [[X, Y]],
            [X, Y, {}], iter([X, Y]), {X, Y},
        ):
            self.assertIs(is_ring(locks, thing), False)
        for odd in NOBODY:
            self.assertIs(is_ring(locks, [X, odd]), False)
            self.assertIs(is_ring(locks, [odd, Y]), False)
        self.assertIs(is_ring(Locks(), [X, Y]), False)


def some_locks(chance):
    locks = Locks()
    whos = [("owner", 0), ("owner", 1), ("owner", 2), ("owner", 10), ("handle", 0), ("handle", 5)]
    for _ in range(40):
        who = chance.choice(whos)
        if not locks.is_waiting(who):
            begin = chance.randrange(6)
            locks.ask(who, chance.randrange(4), begin, chance.choice((None, begin + 1, begin + 3)),
                      shared=chance.random() < 0.4)
    return locks


def naive_waits(locks):
    asks = locks.waiting()
    return {ask[3]: sorted({lock[3] for lock in itertools.chain(locks.held(), asks[:number]) if bars(lock, ask)})
            for number, ask in enumerate(asks)}


class TestByChance(unittest.TestCase):
    def test_rings(self):
        chance = random.Random(19)
        found = []
        for _ in range(100):
            locks = some_locks(chance)
            waits = naive_waits(locks)
            self.assertEqual(list(waits_for(locks).items()), list(waits.items()))
            # Each ring, gone through one by one: which of them have one in common make one lot.
            lots = []
            for many in range(2, len(waits) + 1):
                for order in itertools.permutations(waits, many):
                    due = all(other in waits[one] for one, other in zip(order, order[1:] + order[:1]))
                    if chance.random() < 0.1 or due:
                        self.assertIs(is_ring(locks, list(order)), due)
                    if due:
                        joint = [lot for lot in lots if lot & set(order)]
                        lots = [lot for lot in lots if lot not in joint] + [set(order).union(*joint)]
            due = sorted(sorted(lot) for lot in lots)
            self.assertEqual(rings(locks), due)
            self.assertEqual(to_give_way(locks), sorted(min(lot) for lot in due))
            found.append(len(due))
        self.assertGreater(found.count(1), 15)
        self.assertGreater(found.count(2), 1)

    def test_where_these_give_way_all_get(self):
        chance = random.Random(190)
        gave = 0
        for _ in range(200):
            locks = some_locks(chance)
            waited = {ask[3] for ask in locks.waiting()}
            got = set()
            while to_give_way(locks):
                for who in to_give_way(locks):
                    if locks.is_waiting(who):
                        got |= set(locks.leave(who))
                        waited.discard(who)
                        gave += 1
            self.assertEqual(rings(locks), [])
            while locks.waiting():
                free = [lock[3] for lock in locks.held() if not locks.is_waiting(lock[3])]
                got |= set(locks.drop(free[0]))
            self.assertLessEqual(waited, got)
        self.assertGreater(gave, 50)


if __name__ == "__main__":
    unittest.main()
