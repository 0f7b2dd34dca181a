"""Chances, and the mean number of lost lives.

All weights are chances times the product of all denominators: so they are integers, and
each division below leaves nothing over. The weight of a standing is the chance that from
there on sound arrows lead to all goals; its burden is its weight times its mean number of
lost lives. An arrow that is not tried any more counts in both with all of its denominator.
"""

from math import gcd

from untriedways.cores import bits
from untriedways.errors import NoChances
from untriedways.plans import asked
from untriedways.smallmaps import Small, lots_within, packed
from untriedways.values import is_integer


def mean(chart, chances):
    """The least mean number of lost lives of any plan that sends one at a time."""
    odds = _odds(chart, chances)
    return _fraction(_burden(odds, chart, None, 1, 0), odds.weight(1, 0))


def mean_of(chart, chances, plan):
    """The mean number of lost lives of a plan."""
    odds = _odds(chart, chances)
    return _fraction(_burden(odds, chart, plan, 1, 0), odds.weight(1, 0))


def world_chance(chart, chances):
    """The chance that the sound arrows make a world."""
    odds = _odds(chart, chances)
    return _fraction(odds.weight(1, 0), odds.full)


class Odds:
    """A map of few arrows with chances, and what is known of its standings."""

    def __init__(self, chart, chances):
        self.small = Small(chart)
        self.full = 1
        for _, whole in chances:
            self.full = self.full * whole
        self.burdens = {}
        self._chances = chances
        self._weights = {}

    def weight(self, reached, rotten):
        """The weight of the standing, 0 if it is none."""
        if (reached, rotten) not in self._weights:
            self._weights[reached, rotten] = self._weighed(reached, rotten)
        return self._weights[reached, rotten]

    def share(self, lot, lost):
        """The tuple of the chance that of this lot these are rotten, and of its denominator."""
        part = 1
        whole = 1
        for arrow in bits(lot):
            sound, many = self._chances[arrow]
            part = part * (many - sound if lost >> arrow & 1 else sound)
            whole = whole * many
        return (part, whole)

    def _weighed(self, reached, rotten):
        if self.small.is_home(reached):
            return self.full
        if not self.small.can_be(rotten):
            return 0
        lot = 1 << self.small.untried(reached, rotten)[0]
        total = 0
        for lost in lots_within(lot):
            part, whole = self.share(lot, lost)
            behind = reached | self.small.heads_of(lot - lost)
            total = total + part * self.weight(behind, rotten | lost) // whole
        return total


def _odds(chart, chances):
    """The map with its chances; refuses wrong chances, then a map that is too great."""
    if not isinstance(chances, tuple) or len(chances) != len(chart.arrows()):
        raise NoChances()
    if not all([_is_chance(chance) for chance in chances]):
        raise NoChances()
    return Odds(chart, chances)


def _is_chance(thing):
    """Whether it is a fraction above 0 and below 1."""
    if not isinstance(thing, tuple) or len(thing) != 2:
        return False
    if not is_integer(thing[0]) or not is_integer(thing[1]):
        return False
    return 0 < thing[0] < thing[1] and gcd(thing[0], thing[1]) == 1


def _fraction(part, whole):
    """The fraction, without a common divisor; 0 is (0, 1)."""
    common = gcd(part, whole)
    return (part // common, whole // common)


def _burden(odds, chart, plan, reached, rotten):
    """The burden of the standing by the plan, by the best one if it is None."""
    if odds.small.is_home(reached):
        return 0
    if (reached, rotten) not in odds.burdens:
        lots = _lots_to_send(odds, chart, plan, reached, rotten)
        odds.burdens[reached, rotten] = min([
            _burden_by(odds, chart, plan, reached, rotten, lot) for lot in lots
        ])
    return odds.burdens[reached, rotten]


def _lots_to_send(odds, chart, plan, reached, rotten):
    """The list of the lots among which there is a choice."""
    if plan is None:
        return [1 << arrow for arrow in odds.small.untried(reached, rotten)]
    return [packed(asked(chart, plan, odds.small.standing_of(reached, rotten)))]


def _burden_by(odds, chart, plan, reached, rotten, lot):
    """The burden of the standing if this lot goes first."""
    total = 0
    for lost in lots_within(lot):
        if odds.small.can_be(rotten | lost):
            part, whole = odds.share(lot, lost)
            behind = reached | odds.small.heads_of(lot - lost)
            lives = len(bits(lost)) * odds.weight(behind, rotten | lost)
            later = _burden(odds, chart, plan, behind, rotten | lost)
            total = total + part * (lives + later) // whole
    return total
