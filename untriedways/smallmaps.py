"""Maps of few arrows, for searches through everything that may happen on them.

Here a lot of places or of arrows is kept as the bits of an integer.
"""

from itertools import combinations

from untriedways.cores import bits
from untriedways.errors import TooMany
from untriedways.maps import goals_are_open

FEW_ARROWS = 9


def check_few(chart):
    """Refuses maps with more than a few arrows."""
    if len(chart.arrows()) > FEW_ARROWS:
        raise TooMany(FEW_ARROWS)


class Small:
    """A map of few arrows; for each lot of them it is known beforehand whether it is a world."""

    def __init__(self, chart):
        check_few(chart)
        self._pairs = chart.arrows()
        self._ends = packed(chart.goals())
        lots = range(1 << len(self._pairs))
        self._right = [goals_are_open(chart, tuple(bits(lot))) for lot in lots]
        self._heads = [packed([self._pairs[arrow][1] for arrow in bits(lot)]) for lot in lots]
        self._living = {}

    def worlds(self):
        """The ascending list of all worlds."""
        return [lot for lot, right in enumerate(self._right) if right]

    def can_be(self, rotten):
        """Whether it is a world."""
        return self._right[rotten]

    def is_home(self, reached):
        """Whether all goals are reached."""
        return self._ends & reached == self._ends

    def heads_of(self, lot):
        """The places to which these arrows lead."""
        return self._heads[lot]

    def untried(self, reached, rotten):
        """The ascending list of the tries."""
        return [
            arrow
            for arrow, (tail, head) in enumerate(self._pairs)
            if reached >> tail & 1 and not reached >> head & 1 and not rotten >> arrow & 1
        ]

    def worthy(self, reached, rotten):
        """The ascending list of the tries that are worth it."""
        # What is found rotten never changes what is alive.
        if reached not in self._living:
            self._living[reached] = self._alive(reached)
        living = self._living[reached]
        tried = self.untried(reached, rotten)
        return [arrow for arrow in tried if living >> self._pairs[arrow][1] & 1]

    def standing_of(self, reached, rotten):
        """The standing as the map has it."""
        return (tuple(bits(reached)), tuple(bits(rotten)))

    def _alive(self, reached):
        found = self._ends - (self._ends & reached)
        fresh = True
        while fresh:
            before = found
            for tail, head in self._pairs:
                if found >> head & 1 and not reached >> tail & 1:
                    found |= 1 << tail
            fresh = found != before
        return found


def packed(lot):
    """The integers, some of them perhaps several times, as bits."""
    kept = 0
    for item in lot:
        kept |= 1 << item
    return kept


def lots_among(rows, size):
    """The list of all lots of so many of these integers, as bits."""
    return [packed(chosen) for chosen in combinations(rows, size)]


def lots_within(lot):
    """The ascending list of all lots that have no other items than this one."""
    found = [0]
    for item in bits(lot):
        found = found + [other | 1 << item for other in found]
    return found
