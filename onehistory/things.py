"""What a tree keeps of its things, in plain tables."""


class Things:
    """The tables of one tree. Whether a change can be done is not asked here."""

    def __init__(self, root):
        self.root = root
        self.kind_of = {}
        self.names_in = {}
        self.text_of = {}
        self.path_of = {}
        self.mark_of = {}
        self.turns_of = {}
        self.places_of = {}
        self.greatest = root
        self.enter(root, ("folder",))

    def twin(self):
        """Tables alike, that go on by themselves."""
        other = Things(self.root)
        other.kind_of = dict(self.kind_of)
        other.names_in = {folder: dict(names) for folder, names in self.names_in.items()}
        other.text_of = dict(self.text_of)
        other.path_of = dict(self.path_of)
        other.mark_of = dict(self.mark_of)
        other.turns_of = dict(self.turns_of)
        other.places_of = {thing: list(places) for thing, places in self.places_of.items()}
        other.greatest = self.greatest
        return other

    def enter(self, thing, what):
        """A new thing is there, without a place."""
        kind = what[0]
        self.kind_of[thing] = kind
        self.mark_of[thing] = 0
        self.places_of[thing] = []
        self.greatest = thing
        if kind == "folder":
            self.names_in[thing] = {}
            self.turns_of[thing] = 0
        elif kind == "file":
            self.text_of[thing] = ""
        else:
            self.path_of[thing] = what[1]

    def give(self, folder, name, thing):
        """A name that is free becomes the thing's."""
        self.names_in[folder][name] = thing
        self.places_of[thing].append((folder, name))

    def take(self, folder, name):
        """A name goes; told is the thing that had it."""
        thing = self.names_in[folder].pop(name)
        self.places_of[thing].remove((folder, name))
        return thing

    def turn(self, folder, other):
        """The names of one folder, or of two, have turned by one change."""
        self.turns_of[folder] += 1
        if other != folder:
            self.turns_of[other] += 1

    def is_loose(self, thing):
        """Whether a thing is without a place, and isn't the root."""
        return thing != self.root and not self.places_of[thing]

    def reached(self, thing):
        """A thing and all that is beneath it, rising."""
        met = {thing: True}
        waiting = [thing]
        while waiting:
            names = self.names_in.get(waiting.pop(), {})
            for one in names.values():
                if one not in met:
                    met[one] = True
                    waiting.append(one)
        return sorted(met)
