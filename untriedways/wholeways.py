"""Whole ways: somebody goes one and comes home or not, and nobody hears where they were lost."""

from untriedways.cores import bits
from untriedways.errors import NoNumber, NoWays, TooMany
from untriedways.parts import check_one_goal
from untriedways.searches import steps_from
from untriedways.values import is_index, is_number, marks

MOST_WAYS = 500
FEW_WAYS = 12
MOST_ROTTEN = 4


def ways(chart):
    """The ascending list of all ways."""
    check_one_goal(chart)
    return _all_ways(chart, MOST_WAYS)


def met_by(chart, lot, most):
    """The first lot of at most so many arrows that has one of each of these ways, or None."""
    check_one_goal(chart)
    if not isinstance(lot, list) or not all([_is_way(chart, way) for way in lot]):
        raise NoWays()
    _check_most(most)
    # Short ways first: with them there is the least to choose from.
    rows = sorted(lot, key=len)
    at = _ways_of_arrows(rows)
    for size in range(most + 1):
        found = _first_lot(rows, at, (1 << len(rows)) - 1, size, {})
        if found is not None:
            return found
    return None


def ways_enough(chart, most):
    """A shortest list of ways that no lot of at most so many arrows meets, or None."""
    check_one_goal(chart)
    _check_most(most)
    rows = _all_ways(chart, FEW_WAYS)
    met = _met_sets(rows, most)
    unmet = [(len(bits(chosen)), chosen) for chosen, flag in enumerate(met) if not flag]
    if len(unmet) == 0:
        return None
    _, least = min(unmet)
    return [rows[k] for k in bits(least)]


def _check_most(most):
    if not is_number(most, 0) or most > MOST_ROTTEN:
        raise NoNumber()


def _is_way(chart, thing):
    if not isinstance(thing, tuple) or len(thing) == 0:
        return False
    been = {0: True}
    at = 0
    for arrow in thing:
        if not is_index(arrow, len(chart.arrows())):
            return False
        tail, head = chart.arrows()[arrow]
        if tail != at or head in been:
            return False
        been[head] = True
        at = head
    return at in chart.goals()


def _all_ways(chart, most):
    """The ascending list of all ways; refuses more than so many."""
    heads = [head for _, head in chart.arrows()]
    leaving = [[] for _ in range(chart.many())]
    for arrow, (tail, _) in enumerate(chart.arrows()):
        leaving[tail].append(arrow)
    found = []
    way = []
    been = marks(chart.many(), (0,))
    # For each place of the way that is begun the arrows yet to go from there, the least one last.
    choices = [_onward(chart, been, leaving[0])]
    while choices:
        if choices[-1]:
            arrow = choices[-1].pop()
            if heads[arrow] in chart.goals():
                found.append((*way, arrow))
                if len(found) > most:
                    raise TooMany(most)
            else:
                way.append(arrow)
                been[heads[arrow]] = True
                choices.append(_onward(chart, been, leaving[heads[arrow]]))
        else:
            choices.pop()
            if way:
                last = way.pop()
                been[heads[last]] = False
    return found


def _onward(chart, been, leaving):
    """The descending list of those of these arrows by which the begun way comes to its end.

    A begun way that cannot be brought to its end is never led on: dead ends cost no time.
    """
    onward = [arrow for arrow in leaving if not been[chart.arrows()[arrow][1]]]
    # One of them surely leads on, as the way ahead of it does.
    if len(onward) > 1:
        back = [(head, tail) for tail, head in chart.arrows() if not been[head] and not been[tail]]
        steps = steps_from(chart.many(), back, chart.goals())
        onward = [arrow for arrow in onward if steps[chart.arrows()[arrow][1]] is not None]
    return list(reversed(onward))


def _ways_of_arrows(rows):
    """A dict from arrows to the ways that have them, as bits: the least ones of those that are alike."""
    at = {}
    for k, way in enumerate(rows):
        for arrow in way:
            at[arrow] = at.get(arrow, 0) | 1 << k
    least = {}
    for arrow in sorted(list(at)):
        least.setdefault(at[arrow], arrow)
    return {least[kept]: kept for kept in least}


def _first_lot(rows, at, unmet, size, known):
    """The first lot of so many arrows that meets all these ways, or None; fewer do not meet them."""
    if unmet == 0:
        return ()
    if size == 0:
        return None
    if (unmet, size) not in known:
        way = rows[bits(unmet)[0]]
        best = None
        for arrow in way:
            if arrow in at:
                others = unmet - (unmet & at[arrow])
                found = _first_lot(rows, at, others, size - 1, known)
                if found is not None:
                    lot = tuple(sorted([arrow, *found]))
                    best = lot if best is None else min(best, lot)
        known[unmet, size] = best
    return known[unmet, size]


def _met_sets(rows, most):
    """A list of flags: for each set of ways whether some lot of at most so many arrows meets it."""
    at = _ways_of_arrows(rows)
    covers = {0: True}
    for _ in range(most):
        covers = {cover | at[arrow]: True for cover in covers for arrow in at}
    met = [chosen in covers for chosen in range(1 << len(rows))]
    for chosen in reversed(range(1 << len(rows))):
        if met[chosen]:
            for k in bits(chosen):
                met[chosen - (1 << k)] = True
    return met
