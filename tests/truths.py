"""A second, plain telling of what it is that an answer of a record is true of the rows that a paper tells."""

from onehistory.rows import tree_at
from tests.naive_roads import Lost, naive_place, naive_road


def is_refused(answer):
    return isinstance(answer, tuple) and len(answer) == 3 and answer[0] == "refused"


def fault_of(act, tree, path):
    """What a road or place of a path tells, or how it is refused."""
    try:
        return act(tree, path)
    except Lost as lost:
        return "refused", "Fault", (lost.word, path, lost.gone)


def ways_of(tree, folder=0, way=()):
    """All ways beneath a folder, by names, links not gone along: (way, thing)."""
    found = []
    for name, thing in tree.names(folder).items():
        found.append(((*way, name), thing))
        if tree.kind(thing) == "folder":
            found += ways_of(tree, thing, (*way, name))
    return found


def with_place(tree, found, path):
    """The file or folder of a road that is asked for, or what it is refused by."""
    return found if is_refused(found) else found[1]


class Truth:
    """Of each told row whether its answer is true of the paper's rows, as far as trees tell it."""

    def __init__(self, record, paper):
        self.record = record
        self.rows = [[entry for _, entry in row] for row in paper[0]]
        self.beats = [[beat for beat, _ in row] for row in paper[0]]
        self.moments = paper[1]
        self.trees = {}

    def tree(self, house, moment):
        if (house, moment) not in self.trees:
            self.trees[house, moment] = tree_at(self.rows[house], moment)
        return self.trees[house, moment]

    def moment_at(self, house, beat):
        return len([one for one in self.beats[house] if one <= beat])

    def fell(self, house, begin, end):
        return any(asker is None and other == house and begin < beat <= end
                   for asker, beat, _, other, _, _ in self.record)

    def untrue(self):
        """The numbers of the told rows whose answers aren't true."""
        return [number for number in range(len(self.record)) if not self.is_true(number)]

    def is_true(self, number):
        asker, begin, end, house, ask, answer = self.record[number]
        if end is None:
            return self.moments[number] is None and answer is None
        first, last, pieces = self.moments[number]
        if (first, last) != (self.moment_at(house, begin), self.moment_at(house, end)):
            return False
        if not all(first <= piece <= last for piece in pieces):
            return False
        if begin == end:
            return asker is None or self.at_once(house, ask, answer, first, begin)
        houses = [house] + ([ask[2]] if ask[0] == "copy" else [])
        fallen = [one for one in houses if self.fell(one, begin, end)]
        if fallen:
            return answer == ("refused", "Fallen", (self.moment_at(fallen[0], end),))
        if is_refused(answer) and ask[0] != "going":
            return answer[1] != "Fallen"
        return getattr(self, ask[0])(house, ask, answer, first, last, pieces)

    def at_once(self, house, ask, answer, moment, beat):
        """What can be told of the tree alone; of what changes it the tree behind, and its entry."""
        tree = self.tree(house, moment)
        if ask[0] in ("read", "listed", "packed", "road") and isinstance(ask[1], str):
            found = fault_of(naive_road, tree, ask[1])
            if is_refused(answer):
                return answer == found if answer[1] == "Fault" and answer[2][0] != "kind" else True
            if is_refused(found):
                return False
            return self.looked(tree, ask[0], found, answer)
        if ask[0] == "globbed" and not is_refused(answer):
            return all(tuple(path.strip("/").split("/")) in dict(ways_of(tree)) for path in answer)
        entries = [entry for entry, one in zip(self.rows[house], self.beats[house]) if one == beat]
        if ask[0] == "make" and not is_refused(answer):
            ahead = self.tree(house, moment - 1)
            place = fault_of(naive_place, ahead, ask[1])
            return entries == [("make", *place, ahead.last() + 1, ask[2])] and answer == ahead.last() + 1
        if is_refused(answer):
            return entries == []
        if ask[0] in ("all", "unpacked", "keep", "keep names"):
            return answer == moment
        return True

    def looked(self, tree, word, found, answer):
        thing = found[1]
        if word == "road":
            return answer == found
        if word == "read":
            return tree.kind(thing) == "file" and answer == tree.text(thing)
        if word == "listed":
            return tree.kind(thing) == "folder" and answer == sorted(tree.names(thing))
        ways = ways_of(tree, thing)
        return answer.startswith(f"archive {1 + len(ways)}\nfolder {tree.mark(thing)} .\n")

    def going(self, house, ask, answer, first, last, pieces):
        found = fault_of(naive_road, self.tree(house, last), ask[1])
        return answer == found and pieces == ([] if is_refused(found) else [last])

    def walk(self, house, ask, answer, first, last, pieces):
        waits, met = [((), ask[1])], [ask[1]]
        if pieces != [listing[2] for listing in answer] or pieces != sorted(pieces):
            return False
        for way, folder, moment, names in answer:
            tree = self.tree(house, moment)
            if not waits or (way, folder) != waits.pop(0):
                return False
            if list(names) != [(name, thing, tree.kind(thing)) for name, thing in sorted(tree.names(folder).items())]:
                return False
            for name, thing, kind in names:
                if kind == "folder" and thing not in met:
                    met.append(thing)
                    waits.append(((*way, name), thing))
        return not waits and self.stood_all_along(house, ask[1], answer, first, last)

    def stood_all_along(self, house, folder, answer, first, last):
        """(c): what stood at its place at each moment, under folders that did, is met."""
        always = None
        for moment in range(first, last + 1):
            ways = set(ways_of(self.tree(house, moment), folder))
            always = ways if always is None else always & ways
        named = {thing for _, _, _, names in answer for _, thing, _ in names}
        return all(thing in named for way, thing in always
                   if all((way[:many], dict(always).get(way[:many])) in always for many in range(1, len(way))))

    def whole(self, house, ask, answer, first, last, pieces):
        if answer != "done" or pieces != []:
            return False
        folder, name = naive_place(self.tree(house, first), ask[1])
        entries = self.rows[house][first:last]
        for at, entry in enumerate(entries):
            if entry[0] == "make" and entry[1:3] == (folder, ask[3]):
                behind = entries[at + 1:]
                if ("write", entry[3], 0, ask[2]) in behind:
                    behind = behind[behind.index(("write", entry[3], 0, ask[2])) + 1:]
                    if ("move", folder, ask[3], folder, name) in behind:
                        return True
        return False

    def unpack(self, house, ask, answer, first, last, pieces):
        many = int(ask[2].split("\n")[0].split(" ")[1])
        return answer == pieces == sorted(answer) and len(answer) == many and all(first < piece for piece in answer)

    def copy(self, house, ask, answer, first, last, pieces):
        read, _, as_at = answer
        if [piece[2] for piece in read] != pieces or pieces != sorted(pieces):
            return False

        def reading(moment, word, thing):
            tree = self.tree(house, moment)
            if word == "names":
                return tree.names(thing)
            worth = {"file": tree.text, "link": tree.target, "folder": lambda _: None}[tree.kind(thing)](thing)
            return tree.kind(thing), tree.mark(thing), worth, tree.places(thing) == []

        alike = all(reading(moment, word, thing) == reading(pieces[-1], word, thing) for word, thing, moment in read)
        return as_at == (pieces[-1] if alike else None)
