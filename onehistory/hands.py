"""Hands: each changes a tree apart, and they meet."""

from onehistory.changes import MOST_CHANGES
from onehistory.errors import NoHand, TooMany
from onehistory.folding import Folded
from onehistory.leading import changes_to
from onehistory.putting import done_as_one
from onehistory.records import identity_of, is_hand
from onehistory.telling import tell


class Hand:
    """What one of three hands knows: records of its own, and of those it met."""

    def __init__(self, number):
        if not is_hand(number):
            raise NoHand(number)
        self._hand = number
        self._known = {}
        self._own_kept = 0
        self._folded = Folded([])

    def do(self, change):
        """A change is done as its tree does it, or NoChange; told is how many records that made."""
        folded = self._folded.twin()
        deeds = tell(folded, change, self._hand, self._own_many())
        for deed in deeds:
            self._learn_own(deed)
        self._folded = folded
        return len(deeds)

    def keep(self):
        """All is kept; told is how many records it knows."""
        self._own_kept = self._own_many()
        return len(self._known)

    def fall(self):
        """Its own records since it last kept are gone."""
        for number in range(self._own_kept + 1, self._own_many() + 1):
            del self._known[self._hand, number]
        self._fold()

    def records(self):
        """All records that it knows, sorted."""
        return [self._known[identity] for identity in sorted(self._known)]

    def tree(self):
        """The tree that these tell."""
        return self._folded.whole.twin()

    def identities(self):
        """The identities of the tree's things, by their numbers."""
        return dict(self._folded.identity_of)

    def called(self):
        """Its number."""
        return self._hand

    def twin(self):
        """A hand alike that goes on by itself."""
        other = Hand(self._hand)
        other._known = {identity: self._known[identity] for identity in self._known}
        other._own_kept = self._own_kept
        other._folded = self._folded
        return other

    def _own_many(self):
        """How many records of its own it knows."""
        return len([identity for identity in self._known if identity[0] == self._hand])

    def _learn_own(self, deed):
        knew = [0, 0, 0]
        for hand, _ in self._known:
            knew[hand] += 1
        count = 1 + max([record[2] for record in self._known.values()], default=0)
        number = knew[self._hand] + 1
        self._known[self._hand, number] = (self._hand, number, count, tuple(knew), deed)

    def _learn(self, records):
        """Records are known from now on; told is how many of them are new."""
        new = [record for record in records if identity_of(record) not in self._known]
        for record in new:
            self._known[identity_of(record)] = record
        if new:
            self._fold()
        return len(new)

    def _fold(self):
        self._folded = Folded(self.records())

    def __eq__(self, other):
        if not isinstance(other, Hand) or self._hand != other._hand:
            return False
        return self.records() == other.records()

    def __len__(self):
        return len(self._known)


def meet(one, other):
    """Two hands meet: both keep, then know the same; told is how many records were new to each."""
    if one.called() == other.called():
        raise NoHand(one.called())
    one.keep()
    other.keep()
    records = one.records()
    new = one._learn(other.records())
    return new, other._learn(records)


def lead(house, hand):
    """A house is led to a hand's tree, as one entry; told is the moment behind it."""
    changes = changes_to(house.now(), hand.tree())
    if len(changes) > MOST_CHANGES:
        raise TooMany(MOST_CHANGES + 1)
    return done_as_one(house, changes)
