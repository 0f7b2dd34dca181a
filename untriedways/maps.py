"""Maps, and the worlds that are possible on them."""

from untriedways.errors import NoMap
from untriedways.searches import leads_to_all, pairs_left
from untriedways.values import is_index, is_integer, is_lot

FEWEST_PLACES = 2
MOST_PLACES = 40
MOST_ARROWS = 60


class Map:
    """Places, of which 0 is the start, arrows between them, and goals."""

    def __init__(self, many, arrows, goals):
        check_pairs(many, arrows, MOST_ARROWS)
        if not are_goals(goals, many, arrows):
            raise NoMap("goals")
        self._many = many
        self._arrows = arrows
        self._goals = goals

    def many(self):
        """How many places there are."""
        return self._many

    def arrows(self):
        """The tuple of the pairs (tail, head)."""
        return self._arrows

    def goals(self):
        """The lot of the goals."""
        return self._goals

    def __eq__(self, other):
        return (
            isinstance(other, Map)
            and self._many == other._many
            and self._arrows == other._arrows
            and self._goals == other._goals
        )


def great_map(many, arrows, goals):
    """A map of parts that are known to be right, however many places and arrows there are."""
    chart = Map(2, ((0, 1),), (1,))
    chart._many = many
    chart._arrows = arrows
    chart._goals = goals
    return chart


def is_world(chart, thing):
    """Whether it is a lot of arrows without which each goal can be come to from the start."""
    return is_lot(thing, len(chart.arrows())) and goals_are_open(chart, thing)


def goals_are_open(chart, rotten):
    """Whether each goal can be come to from the start without the arrows of the lot."""
    return leads_to_all(chart.many(), pairs_left(chart.arrows(), rotten), chart.goals())


def check_pairs(many, pairs, most):
    """Refuses a wrong number of places, then what is no tuple of at most so many pairs of them."""
    if not is_integer(many) or not FEWEST_PLACES <= many <= MOST_PLACES:
        raise NoMap("many")
    if not isinstance(pairs, tuple) or len(pairs) > most:
        raise NoMap("arrows")
    if not all([is_pair(pair, many) for pair in pairs]):
        raise NoMap("arrows")


def is_pair(thing, many):
    """Whether it is a pair of unlike places."""
    if not isinstance(thing, tuple) or len(thing) != 2:
        return False
    tail, head = thing
    return is_index(tail, many) and is_index(head, many) and tail != head


def are_goals(thing, many, arrows):
    """Whether it is a lot of one or more places, not the start, to each of which the arrows lead."""
    if not is_lot(thing, many) or len(thing) == 0 or thing[0] == 0:
        return False
    return leads_to_all(many, arrows, thing)
