"""The judge: whether a record of what askers were told is true of the rows that a paper tells."""

from onehistory.asking import COPY, UNPACK, WHOLE, Site, answer_at_once, begun_by, is_ask_at_once, is_ask_begun
from onehistory.disk import Disk
from onehistory.judge_ends import is_fallen_now, is_true_at_end
from onehistory.judge_falls import is_fall_of
from onehistory.judge_form import are_formed, is_led
from onehistory.owned import just_the_same
from onehistory.refusals import answered, is_refused
from onehistory.rows import CUT_BACK

MOST_AT_A_STEP = 2


def amiss(record, paper):
    """What is amiss first with a record and a paper, of anything: (word, number), None where nothing is."""
    if not are_formed(record, paper):
        return "form", None
    rows, spans = paper
    for house, row in enumerate(rows):
        if not is_led(row):
            return "row", house
    judging = Judging(record, rows, spans)
    for beat in judging.all_beats():
        found = judging.amiss_at(beat)
        if found is not None:
            return found
    return None


def lets_record(record, paper):
    """Whether nothing is amiss with a record and a paper, of anything."""
    return amiss(record, paper) is None


class Judging:
    """A record and a paper, gone through beat by beat, by plain houses that have the rows' entries."""

    def __init__(self, record, rows, spans):
        self._told = record
        self._spans = spans
        self._sites = [Site() for _ in rows]
        self._entries = [_by_beats(row) for row in rows]
        self._begins = {told[1]: number for number, told in enumerate(record)}
        self._ends = {told[2]: number for number, told in enumerate(record) if told[2] not in (None, told[1])}
        # By its number in the record what is under way: (the moment as it was begun, its houses, how often these fell).
        self._under_way = {}

    def all_beats(self):
        """All beats of which something is told, rising."""
        found = {beat: True for beat in [*self._begins, *self._ends]}
        for entries in self._entries:
            for beat in entries:
                found[beat] = True
        return sorted(found)

    def amiss_at(self, beat):
        """What is amiss first at a beat, None where nothing is."""
        if beat in self._begins:
            return self._amiss_at_begin(self._begins[beat], beat)
        found = self._claim_amiss(beat)
        if found is None and beat in self._ends:
            return self._amiss_at_end(self._ends[beat])
        return found

    def _entries_at(self, house, beat):
        return self._entries[house].get(beat, [])

    def _amiss_at_begin(self, number, beat):
        asker, _, end, house, ask, _ = self._told[number]
        home = self._sites[house].home
        if asker is not None and asker in [self._told[one][0] for one in self._under_way]:
            return "span", number
        moment = home.moment()
        if not self._is_true_at_begin(number, beat):
            return "told", number
        if home.row()[moment:] != self._entries_at(house, beat):
            return "claim", house
        for other in range(len(self._sites)):
            if other != house and self._entries_at(other, beat):
                return "claim", other
        if end != beat:
            self._set_going(number)
        due = (home.moment(), home.moment(), []) if end == beat else None
        if end in (beat, None) and self._spans[number] != due:
            return "span", number
        return None

    def _is_true_at_begin(self, number, beat):
        """Whether what begins is answered so, or goes on, as a plain house has it."""
        asker, _, end, house, ask, answer = self._told[number]
        site = self._sites[house]
        if asker is None:
            return self._is_true_fall(site, self._entries_at(house, beat), answer)
        if is_ask_at_once(ask):
            return end == beat and just_the_same(answer, answered(answer_at_once, site, asker, ask))
        if not is_ask_begun(ask, house, len(self._sites)):
            return False
        begun = answered(begun_by, self._sites, house, ask)
        if is_refused(begun):
            return end == beat and just_the_same(answer, begun)
        return end != beat

    def _is_true_fall(self, site, entries, answer):
        if not is_fall_of(site, entries, answer):
            return False
        site.home.cut_back(entries[0][1])
        for entry in entries[1:]:
            site.home.change(entry)
        site.disk = Disk(site.home)
        site.lose_all()
        return True

    def _set_going(self, number):
        house, ask = self._told[number][3], self._told[number][4]
        homes = [self._sites[house].home]
        if ask[0] == COPY:
            homes.append(self._sites[ask[2]].home)
        self._under_way[number] = (homes[0].moment(), homes, [home.falls() for home in homes])

    def _claim_amiss(self, beat):
        """Whether the entries of a beat at which nothing begins come of what is under way; they are done."""
        houses = [house for house in range(len(self._sites)) if self._entries_at(house, beat)]
        for house in houses:
            entries = self._entries_at(house, beat)
            if len(houses) > 1 or len(entries) > MOST_AT_A_STEP or not self._may_be_written(house):
                return "claim", house
            for entry in entries:
                if entry[0] == CUT_BACK:
                    return "claim", house
                self._sites[house].home.change(entry)
        return None

    def _may_be_written(self, house):
        """Whether something under way may write to a house."""
        asked = [(self._told[number][3], self._told[number][4]) for number in self._under_way]
        if any([own == house and ask[0] in (WHOLE, UNPACK) for own, ask in asked]):
            return True
        return any([ask[0] == COPY and ask[2] == house for _, ask in asked])

    def _amiss_at_end(self, number):
        asker, _, _, house, ask, answer = self._told[number]
        site, span = self._sites[house], self._spans[number]
        since, homes, falls = self._under_way.pop(number)
        if span is None or span[:2] != (since, site.home.moment()):
            return "span", number
        if [home.falls() for home in homes] != falls:
            is_true = is_fallen_now(homes, falls, answer, span)
        else:
            is_true = is_true_at_end(site, asker, ask, answer, span)
        return None if is_true else ("told", number)


def _by_beats(row):
    """The entries of each beat."""
    found = {}
    for beat, entry in row:
        found.setdefault(beat, []).append(entry)
    return found
