"""Lines: which texts go on with a file, and which begin files of their own."""

from onehistory.records import TEXT, identity_of, knows


class Lines:
    """To which line each record of a file belongs; a line is told by the identity with which it begins."""

    def __init__(self, ordered):
        self.line_of = {}
        self.worth_of = {}
        self.last_of = {}
        # For each line that a text began, the line of the record ahead of it.
        self.elder_of = {}
        # For each line the texts ahead of which one of its records stands.
        self._texts_on = {}
        for record in ordered:
            identity, deed = identity_of(record), record[4]
            if deed[0] == "make" and deed[3] == ("file",):
                self._begin_line(identity, "")
            elif deed[0] == TEXT:
                self._put(record, identity, deed[1], deed[2])

    def begins(self, identity):
        """Whether a line begins with this identity."""
        return self.line_of.get(identity) == identity

    def lets_count(self, strike, line):
        """Whether each text on a line is known to a strike of its file, or knows it."""
        return all([knows(strike, text) or knows(text, strike) for text in self._texts_on[line]])

    def _begin_line(self, identity, worth):
        self.line_of[identity] = identity
        self.last_of[identity] = identity
        self.worth_of[identity] = worth
        self._texts_on[identity] = []

    def _put(self, record, identity, ahead, worth):
        line = self.line_of[ahead]
        self._texts_on[line].append(record)
        if self.last_of[line] != ahead:
            self._begin_line(identity, worth)
            self.elder_of[identity] = line
            return
        self.line_of[identity] = line
        self.last_of[line] = identity
        self.worth_of[line] = worth
