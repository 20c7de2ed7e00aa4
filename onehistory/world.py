"""Worlds: houses and their askers, woven row by row, with a record of all that was told, and a paper."""

from onehistory.asking import Site, answer_at_end, answer_at_once, begun_by, ends_by_step, moments_at_end
from onehistory.errors import NoMoment, NoWeaving
from onehistory.owned import own
from onehistory.refusals import answered, is_refused
from onehistory.weaving import DO, FALL, STEP, is_number_of, is_row
from onehistory.whole import is_whole

MOST_HOUSES = 3


class World:
    """One to three houses and four askers, that go on beat by beat."""

    def __init__(self, many=1):
        if not is_whole(many) or not 1 <= many <= MOST_HOUSES:
            raise NoMoment(many)
        self._sites = [Site() for _ in range(many)]
        self._played = []
        # By asker what it is busy with: (its number in the record, its ask's word, what is under way, since when).
        self._under_way = {}
        self._told = []
        self._spans = []
        self._beats_of = [[] for _ in range(many)]

    def play(self, rows):
        """Rows are played, all or none; told is what each was answered."""
        if not isinstance(rows, list):
            raise NoWeaving(None)
        before = len(self._played)
        answers = []
        for number, row in enumerate(rows):
            if not is_row(row, len(self._sites), self._under_way):
                self._go_back(before)
                raise NoWeaving(number)
            answers.append(own(self._play_one(own(row))))
        return answers

    def record(self):
        """All that was asked: tuples (asker, begin, end, house, ask, answer), as they began."""
        return own(self._told)

    def paper(self):
        """All entries of each house, with their beats, and of which moments each answer is true."""
        rows = []
        for site, beats in zip(self._sites, self._beats_of):
            rows.append(list(zip(beats, site.home.row())))
        return rows, own(self._spans)

    def beats(self):
        """How many beats there were."""
        return len(self._played)

    def busy(self):
        """The askers that are busy, rising."""
        return sorted(self._under_way)

    def house(self, number):
        """A twin of a house."""
        if not is_number_of(number, len(self._sites)):
            raise NoMoment(number)
        return self._sites[number].home.twin()

    def twin(self):
        """A world alike that goes on by itself."""
        other = World(len(self._sites))
        other._play_all(self._played)
        return other

    def _play_all(self, rows):
        for row in rows:
            self._play_one(row)

    def _go_back(self, many):
        """All rows but the first ones are as if they were never played."""
        other = World(len(self._sites))
        other._play_all(self._played[:many])
        self._sites = other._sites
        self._played = other._played
        self._under_way = other._under_way
        self._told = other._told
        self._spans = other._spans
        self._beats_of = other._beats_of

    def _play_one(self, row):
        """A row is played; told is its answer, None of what has none."""
        if row[0] == STEP:
            answer = self._step(row[1])
        elif row[0] == FALL:
            answer = self._fall(row[1], row[2])
        elif row[0] == DO:
            answer = self._do(row[1], row[2], row[3])
        else:
            answer = self._begin_one(row[1], row[2], row[3])
        beat = len(self._played)
        lately = [[beat] * (site.home.moment() - len(beats)) for site, beats in zip(self._sites, self._beats_of)]
        self._beats_of = [beats + new for beats, new in zip(self._beats_of, lately)]
        self._played.append(row)
        return answer

    def _do(self, asker, house, ask):
        answer = answered(answer_at_once, self._sites[house], asker, ask)
        self._tell_at_once(asker, house, ask, answer)
        return answer

    def _begin_one(self, asker, house, ask):
        begun = answered(begun_by, self._sites, house, ask)
        if is_refused(begun):
            self._tell_at_once(asker, house, ask, begun)
            return begun
        self._under_way[asker] = (len(self._told), ask[0], begun, self._moment_of(house))
        self._told.append((asker, len(self._played), None, house, ask, None))
        self._spans.append(None)
        return None

    def _step(self, asker):
        number, word, begun, since = self._under_way[asker]
        ended = answered(ends_by_step, word, begun)
        if ended is False:
            return None
        answer = ended if is_refused(ended) else answered(answer_at_end, word, begun)
        pieces = [] if is_refused(answer) else moments_at_end(word, begun)
        del self._under_way[asker]
        _, first, _, house, ask, _ = self._told[number]
        self._told[number] = (asker, first, len(self._played), house, ask, answer)
        self._spans[number] = (since, self._moment_of(house), pieces)
        return answer

    def _fall(self, house, number):
        site = self._sites[house]
        choice = site.disk.choice_by(number)
        moment = site.disk.fall(choice)
        site.lose_all()
        self._tell_at_once(None, house, (FALL, choice), moment)
        return moment

    def _tell_at_once(self, asker, house, ask, answer):
        beat = len(self._played)
        self._told.append((asker, beat, beat, house, ask, answer))
        self._spans.append((self._moment_of(house), self._moment_of(house), []))

    def _moment_of(self, house):
        return self._sites[house].home.moment()

    def __len__(self):
        return len(self._told)
