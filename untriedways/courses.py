"""A run that goes on: what a party and a foe have in common."""

from untriedways.errors import Done, NoTries
from untriedways.sending import are_tries, lost_in, standing_behind
from untriedways.standings import begin, done_at, worth_at


class Course:
    """The evenings on a map so far, with the standings at which they begin and end."""

    def __init__(self, chart):
        self._chart = chart
        self._told = []
        self._stood = [begin(chart)]

    def here(self):
        """The standing of now."""
        return self._stood[-1]

    def told(self):
        """The run, a new list."""
        return list(self._told)

    def check_lot(self, thing):
        """Refuses what cannot be sent now."""
        if done_at(self._chart, self.here()):
            raise Done()
        if not are_tries(self._chart, self.here(), thing):
            raise NoTries()

    def go_on(self, pairs):
        """One evening more."""
        self._stood.append(standing_behind(self._chart, self.here(), pairs))
        self._told.append(pairs)

    def go_back(self):
        """One evening less; False if there is none."""
        if len(self._told) == 0:
            return False
        self._told.pop()
        self._stood.pop()
        return True

    def count_lost(self):
        """How many were lost in all evenings."""
        return sum([lost_in(pairs) for pairs in self._told])

    def all_worth(self):
        """Whether each arrow was worth a try at the begin of its evening."""
        return all([self._was_worth(k) for k in range(len(self._told))])

    def forked(self):
        """A course of its own with the same evenings."""
        other = Course(self._chart)
        other._told = list(self._told)
        other._stood = list(self._stood)
        return other

    def _was_worth(self, k):
        worthy = worth_at(self._chart, self._stood[k])
        return all([arrow in worthy for arrow, _ in self._told[k]])
