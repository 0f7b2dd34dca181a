"""Facts about the rotten arrows, and plans that make use of them."""

from untriedways.cores import bits
from untriedways.errors import NoFacts, NoNumber, NoWorlds, TooMany
from untriedways.smallmaps import Small, packed
from untriedways.standings import begin, done_at, is_standing, tries_at
from untriedways.values import is_flag, is_index, is_integer, is_lot, is_number, with_item

MOST_CLAUSES = 5


def lives_with(chart, facts):
    """The least number of lives that are enough for some plan in all worlds that fit."""
    _check_facts(chart, facts)
    small = Small(chart)
    return 1 + _most_lost(small, _fitting(small, facts))


def plan_with(chart, facts):
    """A dict from knowledges to tuples (number, arrow) of a plan that needs so few lives."""
    _check_facts(chart, facts)
    small = Small(chart)
    rows = {}
    _least_lost(small, _fitting(small, facts), 0, 0, rows)
    found = {}
    layer = [(0, 0)]
    while layer:
        fresh = []
        for rotten, sound in layer:
            number, arrow = rows[rotten, sound]
            standing = small.standing_of(_reached(small, sound), rotten)
            found[(standing, tuple(bits(sound)))] = (number, arrow)
            behind = [(rotten | 1 << arrow, sound), (rotten, sound | 1 << arrow)]
            fresh.extend([known for known in behind if known in rows])
        layer = fresh
    return found


def plan_fault(chart, facts, lives, thing):
    """The first thing that is wrong with such a dict for so many lives, None if nothing is."""
    _check_facts(chart, facts)
    if not is_number(lives, 1):
        raise NoNumber()
    small = Small(chart)
    worlds = _fitting(small, facts)
    if not isinstance(thing, dict):
        return ("form",)
    if not all([_is_row(chart, worlds, key, thing[key]) for key in thing]):
        return ("form",)
    first = (begin(chart), ())
    if first not in thing or thing[first][0] >= lives:
        return ("begin",)
    for key in sorted(list(thing)):
        for sound in (False, True):
            if not _holds_behind(chart, worlds, key, sound, thing):
                return ("falls", key, sound)
    return None


def facts_needed(chart, facts):
    """The ascending list of the least lots of clauses that give the same number of lives."""
    _check_facts(chart, facts)
    if len(facts) > MOST_CLAUSES:
        raise TooMany(MOST_CLAUSES)
    small = Small(chart)
    lots = range(1 << len(facts))
    lives = [_most_lost(small, _fitting(small, [facts[k] for k in bits(lot)])) for lot in lots]
    same = [lot for lot in lots if lives[lot] == lives[-1]]
    least = [lot for lot in same if not any([other != lot and other & lot == other for other in same])]
    return sorted([tuple(bits(lot)) for lot in least])


def _check_facts(chart, thing):
    if not isinstance(thing, tuple) or not all([_is_clause(chart, clause) for clause in thing]):
        raise NoFacts()


def _is_clause(chart, thing):
    if not isinstance(thing, tuple) or len(thing) == 0:
        return False
    return all([_is_claim(chart, claim) for claim in thing])


def _is_claim(chart, thing):
    if not isinstance(thing, tuple) or len(thing) != 2:
        return False
    return is_index(thing[0], len(chart.arrows())) and is_flag(thing[1])


def _fitting(small, facts):
    """The list of the worlds, as bits, that fit the facts; refuses facts that none fits."""
    found = [world for world in small.worlds() if all([_holds(clause, world) for clause in facts])]
    if len(found) == 0:
        raise NoWorlds()
    return found


def _holds(clause, world):
    return any([(world >> arrow & 1 == 0) == sound for arrow, sound in clause])


def _most_lost(small, worlds):
    return _least_lost(small, worlds, 0, 0, {})


def _least_lost(small, worlds, rotten, sound, rows):
    """The least number of lives that are lost in all these worlds from there on.

    These are the worlds that fit what is known; the rows get the number, with the arrow that
    is tried, for each knowledge that is not done.
    """
    reached = _reached(small, sound)
    if small.is_home(reached):
        return 0
    if (rotten, sound) not in rows:
        best = None
        for arrow in small.untried(reached, rotten):
            number = _lost_by(small, worlds, rotten, sound, rows, arrow)
            if best is None or number < best[0]:
                best = (number, arrow)
        rows[rotten, sound] = best
    return rows[rotten, sound][0]


def _lost_by(small, worlds, rotten, sound, rows, arrow):
    """The lives that are lost if this arrow is tried first."""
    lost = [world for world in worlds if world >> arrow & 1]
    kept = [world for world in worlds if not world >> arrow & 1]
    number = 0
    if lost:
        number = 1 + _least_lost(small, lost, rotten | 1 << arrow, sound, rows)
    if kept:
        number = max(number, _least_lost(small, kept, rotten, sound | 1 << arrow, rows))
    return number


def _reached(small, sound):
    """The places that are reached, the start and the heads of the arrows found sound."""
    return 1 | small.heads_of(sound)


def _is_row(chart, worlds, key, row):
    if not _is_knowledge(chart, worlds, key) or done_at(chart, key[0]):
        return False
    if not isinstance(row, tuple) or len(row) != 2 or not is_number(row[0], 0):
        return False
    return is_integer(row[1]) and row[1] in tries_at(chart, key[0])


def _is_knowledge(chart, worlds, thing):
    if not isinstance(thing, tuple) or len(thing) != 2:
        return False
    standing, sound = thing
    if not is_standing(chart, standing) or not is_lot(sound, len(chart.arrows())):
        return False
    reached, _ = standing
    if not all([chart.arrows()[arrow][1] in reached for arrow in sound]):
        return False
    return _some_fits(worlds, thing)


def _some_fits(worlds, knowledge):
    """Whether some of the worlds has these arrows sound and those rotten."""
    (_, lost), kept = knowledge
    rotten = packed(lost)
    sound = packed(kept)
    for world in worlds:
        if world & rotten == rotten and world & sound == 0:
            return True
    return False


def _holds_behind(chart, worlds, key, sound, rows):
    """Whether all is as it should be behind this answer, if it can be."""
    number, arrow = rows[key]
    (reached, lost), kept = key
    if sound:
        behind = ((with_item(reached, chart.arrows()[arrow][1]), lost), with_item(kept, arrow))
    else:
        behind = ((reached, with_item(lost, arrow)), kept)
    if not _some_fits(worlds, behind) or done_at(chart, behind[0]):
        return True
    if behind not in rows:
        return False
    return rows[behind][0] <= number if sound else rows[behind][0] < number
