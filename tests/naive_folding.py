"""A second, plain telling of point 33, against which folding is held: each question asked anew, by going through all.

Also records by chance, as nobody's hand would do them, and what a tree tells of its things.
"""

import itertools
import string


def told_of(tree):
    """What a tree tells of each thing: (kind, worth, mark, places)."""
    rows = {}
    for thing in tree.things():
        kind = tree.kind(thing)
        worth = {"folder": lambda _: None, "file": tree.text, "link": tree.target}[kind](thing)
        rows[thing] = (kind, worth, tree.mark(thing), tree.places(thing))
    return rows


class NaiveFold:
    def __init__(self, records):
        self.order = sorted(records, key=lambda record: (record[2], record[0]))
        self.by = {record[:2]: record for record in records}
        self.known = {identity: {(hand, number) for hand in range(3) for number in range(1, record[3][hand] + 1)}
                      for identity, record in self.by.items()}
        self.lines()
        self.strikes = [record for record in self.order if record[4][0] == "strike" and self.named(record[4][1])]
        self.placings()
        self.names()

    def deeds(self, *words):
        return [(record[:2], *record[4]) for record in self.order if record[4][0] in words]

    def knows(self, one, other):
        return other in self.known[one]

    # (a)
    def lines(self):
        self.chains = {}
        for identity, word, *parts in self.deeds("make", "text"):
            if word == "make":
                if parts[2] == ("file",):
                    self.chains[identity] = [identity]
            else:
                line = self.line(parts[0])
                if self.chains[line][-1] == parts[0]:
                    self.chains[line].append(identity)
                else:
                    self.chains[identity] = [identity]

    def line(self, identity):
        return next(line for line, chain in self.chains.items() if identity in chain)

    def is_branch(self, identity):
        return self.by[identity][4][0] == "text" and identity in self.chains

    def named(self, naming):
        """The thing that a naming is of, None where it is none."""
        word, *parts = self.by[naming][4]
        if word == "make":
            return naming
        if word == "name":
            return self.line(parts[0])
        return naming if naming in self.chains else None

    def kind(self, thing):
        word, *parts = self.by[thing][4]
        return parts[2][0] if word == "make" else "file"

    # (c)
    def counts(self, strike):
        thing = self.named(strike[4][1])
        kind = self.kind(thing)
        if kind == "link":
            return True
        if kind == "file":
            texts = [identity for identity, _, ahead, _ in self.deeds("text") if self.line(ahead) == thing]
            return all(self.knows(strike[:2], text) or self.knows(text, strike[:2]) for text in texts)
        return all(self.left(strike[:2], placing) for placing in self.rows if placing[2] == thing)

    def left(self, identity, placing):
        """Whether a record knows a later placing of a placing's naming, or a strike of it that counts."""
        later = self.rows[self.rows.index(placing) + 1:]
        if any(row[1] == placing[1] and self.knows(identity, row[0]) for row in later):
            return True
        return self.knows_strike(identity, placing[1])

    def knows_strike(self, identity, naming):
        return any(strike[4][1] == naming and self.knows(identity, strike[:2]) and self.counts(strike)
                   for strike in self.strikes)

    # (b)
    def placings(self):
        """Rows (record, naming, folder, wish, number)."""
        self.rows = []
        for identity, word, *parts in self.deeds("make", "name", "text", "move", "exchange"):
            if word == "make":
                self.place(identity, identity, parts[0], parts[1])
            elif word == "name":
                self.place(identity, identity, parts[1], parts[2])
            elif word == "text":
                self.branch(identity, parts[0])
            else:
                for naming, folder, wish in (parts[:3], parts[3:]):
                    if naming is not None:
                        self.move(identity, naming, folder, wish)
                    if word == "move":
                        break

    def place(self, identity, naming, folder, wish):
        self.rows.append((identity, naming, folder, wish, len(self.rows)))

    def now(self, naming):
        return [row for row in self.rows if row[1] == naming][-1]

    def branch(self, identity, ahead):
        if not self.is_branch(identity):
            return
        line = next(line for line, chain in self.chains.items() if ahead in chain)
        namings = []
        for row in self.rows:
            if row[1] not in namings and self.kind(self.named(row[1])) == "file" and self.named(row[1]) == line:
                namings.append(row[1])
        for naming in namings:
            if not self.knows_strike(identity, naming):
                self.place(identity, identity, *self.now(naming)[2:4])
                return

    def move(self, identity, naming, folder, wish):
        if not any(row[1] == naming for row in self.rows):
            return
        if self.kind(self.named(naming)) == "folder":
            upper = folder
            while upper is not None:
                if upper == naming:
                    return
                upper = self.now(upper)[2]
        self.place(identity, naming, folder, wish)

    # (d)
    def names(self):
        self.had = []
        for identity, naming, folder, wish, number in self.rows:
            taken = {self.had[row[4]] for row in self.rows[:number]
                     if row[1] != naming and row[2] == folder and not self.free(identity, row)}
            others = map("".join, itertools.product(string.ascii_lowercase, repeat=2))
            while wish in taken:
                wish = self.rows[number][3][:6] + next(others)
            self.had.append(wish)

    def free(self, identity, row):
        behind = self.rows[row[4] + 1:]
        return self.left(identity, row) or any(one[1] == row[1] and one[0] == identity for one in behind)

    # (e)
    def mark(self, thing, until=None):
        """The mark that a thing has by the records ahead of one, by all where it is left out."""
        mark = 0
        for record in self.order:
            if record[:2] == until:
                return mark
            if record[:2] == thing and thing is not None and self.is_branch(thing):
                mark = self.mark(self.line_ahead(thing), until=thing)
            if record[4][0] == "mark" and self.thing(record[4][1]) == thing:
                mark = record[4][2]
        return mark

    def line_ahead(self, thing):
        return self.line(self.by[thing][4][1])

    def thing(self, identity):
        if identity is None or self.by[identity][4][0] == "make":
            return identity
        return self.line(identity)

    def identities(self):
        things = [record[:2] for record in self.order
                  if record[4][0] == "make" or record[4][0] == "text" and record[:2] in self.chains]
        return dict(enumerate([None] + things))

    def told(self):
        identities = self.identities()
        number = {identity: one for one, identity in identities.items()}
        rows = {0: ("folder", None, self.mark(None), [])}
        for one, thing in list(identities.items())[1:]:
            kind = self.kind(thing)
            worth = None
            if kind == "file":
                last = self.by[self.chains[thing][-1]][4]
                worth = last[2] if last[0] == "text" else ""
            elif kind == "link":
                worth = self.by[thing][4][3][1]
            rows[one] = (kind, worth, self.mark(thing), [])
        for naming in {row[1] for row in self.rows}:
            if not any(strike[4][1] == naming and self.counts(strike) for strike in self.strikes):
                row = self.now(naming)
                rows[number[self.named(naming)]][3].append((number[row[2]], self.had[row[4]]))
        return {one: (kind, worth, mark, sorted(places)) for one, (kind, worth, mark, places) in rows.items()}


def some_records(chance, many):
    """Records by chance, of which each names anything that it knew, be it struck, moved or beneath it."""
    records = {}
    knew = [[0, 0, 0] for _ in range(3)]
    for _ in range(many):
        hand = chance.randrange(3)
        if chance.random() < 0.4:
            other = chance.randrange(3)
            knew[hand] = [max(pair) for pair in zip(knew[hand], knew[other])]
        known = [records[one, number] for one in range(3) for number in range(1, knew[hand][one] + 1)]
        deed = some_deed(chance, known)
        count = 1 + max([record[2] for record in known], default=0)
        number = knew[hand][hand] + 1
        records[hand, number] = (hand, number, count, tuple(knew[hand]), deed)
        knew[hand][hand] = number
    return [records[identity] for identity in sorted(records)]


def some_deed(chance, known):
    def pick(*words, kinds=("folder", "file", "link"), root=False):
        found = [record[:2] for record in known if record[4][0] in words
                 and (record[4][0] != "make" or record[4][3][0] in kinds)]
        if root:
            found += [None] * (1 + len(found) // 2)
        return chance.choice(found) if found else "none"

    def folder():
        return pick("make", kinds=("folder",), root=True)

    def naming():
        return pick("make", "name", "text")

    def file():
        return pick("make", "text", kinds=("file",))

    def name():
        return chance.choice(("a", "b", "longname", "longnaaa"))

    word = chance.choice(("make", "make", "make", "name", "text", "text", "mark", "strike", "strike", "move", "move",
                          "exchange"))
    what = chance.choice((("folder",), ("folder",), ("file",), ("file",), ("link", "a")))
    deed = {
        "make": lambda: (folder(), name(), what),
        "name": lambda: (file(), folder(), name()),
        "text": lambda: (file(), chance.choice(("x", "y", "zz"))),
        "mark": lambda: (pick("make", "text", root=True), chance.randrange(9)),
        "strike": lambda: (naming(),),
        "move": lambda: (naming(), folder(), name()),
        "exchange": lambda: (naming(), folder(), name(), naming(), folder(), name()),
    }[word]()
    return some_deed(chance, known) if "none" in deed else (word, *deed)
