"""The ledger of a run: what was lost, and what the foe gave away."""

from untriedways.errors import NotDone, NotSensible
from untriedways.parts import onward_arrows
from untriedways.runs import standings_of
from untriedways.sending import lost_in
from untriedways.standings import arrows_nearer, check_standing, check_try, done_at, news_at, steps_to_go, worth_at
from untriedways.tables import left_at


def ledger(chart, run):
    """The list, for each evening, of the tuple (lost, gift)."""
    standings = standings_of(chart, run)
    if len(run) == 0:
        return []
    lefts = [left_at(chart, standing) for standing in standings]
    losses = [lost_in(pairs) for pairs in run]
    return [(lost, lefts[k] - lefts[k + 1] - lost) for k, lost in enumerate(losses)]


def gifts(chart, standing, arrow):
    """What the answers rotten and sound give away, None for one that cannot be."""
    check_standing(chart, standing)
    check_try(chart, standing, arrow)
    here = left_at(chart, standing)
    rotten = news_at(chart, standing, arrow, False)
    sound = news_at(chart, standing, arrow, True)
    given = None if rotten is None else here - left_at(chart, rotten) - 1
    return (given, here - left_at(chart, sound))


def run_part(chart, run):
    """A part of the map whose excess is at least the number of those whom the run lost."""
    standings = standings_of(chart, run)
    if not done_at(chart, standings[-1]):
        raise NotDone()
    if not _all_worth(chart, run, standings):
        raise NotSensible()
    ranks = _ranks_by_run(chart, run, standings)
    rows = sorted([(*ranks[place], place) for place in ranks])
    order = tuple([place for _, _, place in rows])
    return (order, onward_arrows(chart, order))


def _all_worth(chart, run, standings):
    for k, pairs in enumerate(run):
        worthy = worth_at(chart, standings[k])
        if not all([arrow in worthy for arrow, _ in pairs]):
            return False
    return True


def _ranks_by_run(chart, run, standings):
    """A dict from all places of a part to their ranks, by which they are put in order.

    A rank is an evening and how near to a goal the place is at its begin. The part has all
    places to which somebody was sent, and what lies on the shortest ways home from these.
    Whoever was lost on the way to a place that was never reached is made up for by the arrow
    by which the way from there comes to a place that has a rank already: so the evenings are
    looked at from the last one on, and each way ends where another one goes on.
    """
    ranks = {0: (-1, 0)}
    for k in reversed(range(len(run))):
        steps = steps_to_go(chart, standings[k])
        onward = arrows_nearer(chart, standings[k], steps)
        for arrow, _ in run[k]:
            _, head = chart.arrows()[arrow]
            _lead_home(chart, ranks, head, k, steps, onward)
    return ranks


def _lead_home(chart, ranks, head, k, steps, onward):
    """Gives ranks to what lies on the way from the head to a place that has one, or to a goal."""
    at = head
    while at not in ranks:
        ranks[at] = (k, -steps[at])
        if steps[at] > 0:
            _, at = chart.arrows()[onward[at]]
