"""How many evenings it takes, with crowds and with few."""

from untriedways.cores import Core, bits, path_ends
from untriedways.errors import NoNumber
from untriedways.sending import are_tries, standings_behind
from untriedways.smallmaps import Small, lots_among, lots_within
from untriedways.standings import begin, done_at, is_standing
from untriedways.values import is_any_lot, is_number

MOST_PEOPLE = 9


def longest(chart):
    """A way of the most arrows."""
    core = Core(chart)
    ends = path_ends(core)
    homes = [spots for spots in ends if ends[spots] & core.ends]
    counts = [len(bits(spots)) for spots in homes]
    spots = homes[counts.index(max(counts))]
    at = bits(ends[spots] & core.ends)[0]
    way = []
    while spots > 1:
        spots -= 1 << at
        before = bits(ends[spots] & core.inward[at])[0]
        way.append(chart.arrows().index((core.spots[before], core.spots[at])))
        at = before
    way.reverse()
    return tuple(way)


def evenings(chart, people):
    """The least number of evenings in which some plan reaches all goals, whatever the world."""
    _check_people(people)
    return _fewest(Small(chart), people, 1, 0, {})


def evening_table(chart, people):
    """A dict from standings to tuples (number, lot) of a plan that needs the fewest evenings."""
    _check_people(people)
    small = Small(chart)
    rows = {}
    _fewest(small, people, 1, 0, rows)
    return {
        small.standing_of(reached, rotten): (rows[reached, rotten][0], tuple(bits(rows[reached, rotten][1])))
        for reached, rotten in rows
    }


def evening_fault(chart, people, thing):
    """The first thing that is wrong with such a dict, None if nothing is."""
    _check_people(people)
    if not isinstance(thing, dict) or not all([_is_row(chart, key, thing[key]) for key in thing]):
        return ("form",)
    if begin(chart) not in thing:
        return ("begin",)
    keys = sorted(list(thing))
    for standing in keys:
        _, lot = thing[standing]
        if len(lot) > people or not are_tries(chart, standing, lot):
            return ("lot", standing)
    for standing in keys:
        if not _comes_home(chart, standing, thing):
            return ("falls", standing)
    return None


def _check_people(people):
    if not is_number(people, 1) or people > MOST_PEOPLE:
        raise NoNumber()


def _fewest(small, people, reached, rotten, rows):
    """The least number of evenings from there on; the rows get it, with a lot, for each standing.

    Whoever tries more knows more, and what is not worth a try tells nothing: so as many go as
    may go, all to places that are alive.
    """
    if small.is_home(reached):
        return 0
    if (reached, rotten) not in rows:
        worthy = small.worthy(reached, rotten)
        best = None
        for lot in lots_among(worthy, min(people, len(worthy))):
            number = _fewest_by(small, people, reached, rotten, rows, lot, best)
            if best is None or number < best[0]:
                best = (number, lot)
        rows[reached, rotten] = best
    return rows[reached, rotten][0]


def _fewest_by(small, people, reached, rotten, rows, lot, best):
    """The evenings that are enough if this lot goes first, as soon as they are too many for the best."""
    number = 1
    for lost in lots_within(lot):
        if small.can_be(rotten | lost):
            behind = reached | small.heads_of(lot - lost)
            number = max(number, 1 + _fewest(small, people, behind, rotten | lost, rows))
            if best is not None and number >= best[0]:
                return number
    return number


def _is_row(chart, key, row):
    if not is_standing(chart, key) or done_at(chart, key):
        return False
    if not isinstance(row, tuple) or len(row) != 2:
        return False
    return is_number(row[0], 1) and is_any_lot(row[1])


def _comes_home(chart, standing, rows):
    """Whether all answers lead to standings that are done or have a lesser number."""
    number, lot = rows[standing]
    for behind in standings_behind(chart, standing, lot, 1 << MOST_PEOPLE):
        if not done_at(chart, behind) and (behind not in rows or rows[behind][0] >= number):
            return False
    return True
