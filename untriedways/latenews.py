"""News that come late, and maps with few rotten arrows."""

from untriedways.errors import NoNumber, NoPlan, NoWorld
from untriedways.maps import is_world
from untriedways.parts import worst
from untriedways.sending import lost_in, standing_behind
from untriedways.standings import begin, done_at, tries_at
from untriedways.values import is_lot, is_number

LATEST = 5


def late_walk(chart, world, plan, late):
    """Sends by the plan, the answers heard so late: the tuple (lost, evenings, run)."""
    if not is_world(chart, world):
        raise NoWorld()
    if not is_number(late, 0) or late > LATEST:
        raise NoNumber()
    standing = begin(chart)
    run = []
    while not done_at(chart, standing):
        coming = [arrow for pairs in run[-late:] for arrow, _ in pairs] if late > 0 else []
        sent = tuple(sorted([arrow for pairs in run for arrow, _ in pairs]))
        lot = plan(standing, sent)
        if not _may_go(chart, standing, lot, coming):
            raise NoPlan()
        run.append(tuple([(arrow, arrow not in world) for arrow in lot]))
        if len(run) > late:
            standing = standing_behind(chart, standing, run[-late - 1])
    return (sum([lost_in(pairs) for pairs in run]), len(run), run)


def _may_go(chart, standing, thing, coming):
    """Whether it is a lot of tries, none of them under way, and an empty one only if some are."""
    if not is_lot(thing, len(chart.arrows())):
        return False
    if len(thing) == 0:
        return len(coming) > 0
    tried = tries_at(chart, standing)
    return all([arrow in tried and arrow not in coming for arrow in thing])


def worst_among(chart, most):
    """The most lives that are lost if at most so many arrows are rotten."""
    if not is_number(most, 0):
        raise NoNumber()
    return min(most, worst(chart))
