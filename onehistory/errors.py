"""All refusals: each is made of its values, which are its fields."""


class HistoryError(ValueError):
    """What is handed in is none of what is due."""


class NoPath(HistoryError):
    """A thing is no path, or things are no steps of one."""

    def __init__(self, thing):
        self.thing = thing


class NoChange(HistoryError):
    """A change can't be done; the word says why."""

    def __init__(self, word):
        self.word = word


class NoRow(HistoryError):
    """A thing is no row: None, or the number of the first entry that can't be done."""

    def __init__(self, number):
        self.number = number


class NoMoment(HistoryError):
    """A thing is no moment, or not one of these."""

    def __init__(self, thing):
        self.thing = thing


class NoThing(IndexError):
    """A thing isn't in the tree, or not of the kind that is asked."""

    def __init__(self, thing):
        self.thing = thing


class NoHandle(IndexError):
    """A thing is no handle that is there."""

    def __init__(self, thing):
        self.thing = thing


class Fault(LookupError):
    """A road can't be gone on: why, by which path, and the steps so far."""

    def __init__(self, word, path, gone):
        self.word = word
        self.path = path
        self.gone = gone


class Fallen(RuntimeError):
    """The house fell meanwhile; since is its moment then."""

    def __init__(self, since):
        self.since = since


class NoPattern(HistoryError):
    """A thing is no pattern."""

    def __init__(self, thing):
        self.thing = thing


class NoRoom(HistoryError):
    """A thing is no room of a watch."""

    def __init__(self, thing):
        self.thing = thing


class NoWho(HistoryError):
    """A thing is nobody who locks."""

    def __init__(self, thing):
        self.thing = thing


class NoStretch(HistoryError):
    """A thing is no stretch of a file."""

    def __init__(self, thing):
        self.thing = thing


class Waiting(RuntimeError):
    """Somebody waits already, or waits for nothing."""

    def __init__(self, thing):
        self.thing = thing


class NoChoice(HistoryError):
    """A thing is no choice of a fall."""

    def __init__(self, thing):
        self.thing = thing


class TooMany(OverflowError):
    """There are more than are let."""

    def __init__(self, many):
        self.many = many


class NoRecipe(HistoryError):
    """A thing is no recipe's."""

    def __init__(self, thing):
        self.thing = thing


class NoLine(HistoryError):
    """A thing is no row of a book."""

    def __init__(self, thing):
        self.thing = thing


class Full(OverflowError):
    """A book's file would have more signs than it takes."""

    def __init__(self, size):
        self.size = size


class NoArchive(HistoryError):
    """A text is no archive: None, or the number of the first row that is none."""

    def __init__(self, number):
        self.number = number


class Outside(HistoryError):
    """An archive's row, by its number, is for no place in what it is brought into."""

    def __init__(self, number):
        self.number = number


class There(KeyError):
    """Something is there already, where an archive's row, by its number, would bring a thing."""

    def __init__(self, number):
        self.number = number


class NoHand(HistoryError):
    """A thing is no hand, or one that can't be met."""

    def __init__(self, thing):
        self.thing = thing


class NoWeaving(HistoryError):
    """Rows of a world can't be played: None, or the number of the first that is none."""

    def __init__(self, number):
        self.number = number


class NoText(HistoryError):
    """A text tells no rows: the number of the first that is none."""

    def __init__(self, number):
        self.number = number


class NoDeskRow(HistoryError):
    """A thing is no row of a desk."""

    def __init__(self, thing):
        self.thing = thing


class NoName(KeyError):
    """No world is kept by this name."""

    def __init__(self, thing):
        self.thing = thing
