"""Standings: which places are reached, and which arrows are found rotten.

The functions whose names end in _at take what is known to be a standing of the map.
"""

from untriedways.errors import NoArrow, NoNews, NoPlace, NoStanding, NoTry
from untriedways.maps import goals_are_open
from untriedways.searches import leads_to_all, pairs_left, steps_from
from untriedways.values import is_flag, is_index, is_lot, marks, with_item


def begin(chart):
    """The standing at which nobody has gone out yet."""
    return ((0,), ())


def is_standing(chart, thing):
    """Whether it is a standing of the map."""
    if not isinstance(thing, tuple) or len(thing) != 2:
        return False
    reached, rotten = thing
    if not is_lot(reached, chart.many()) or not is_lot(rotten, len(chart.arrows())):
        return False
    inside = marks(chart.many(), reached)
    if not inside[0] or not all([inside[chart.arrows()[arrow][0]] for arrow in rotten]):
        return False
    return holds_together(chart, reached, rotten) and goals_are_open(chart, rotten)


def check_standing(chart, thing):
    """Refuses what is not a standing of the map."""
    if not is_standing(chart, thing):
        raise NoStanding()


def is_done(chart, standing):
    """Whether all goals are reached."""
    check_standing(chart, standing)
    return done_at(chart, standing)


def done_at(chart, standing):
    """Whether all goals are reached."""
    reached, _ = standing
    inside = marks(chart.many(), reached)
    return all([inside[goal] for goal in chart.goals()])


def alive(chart, standing):
    """The lot of the places that are alive."""
    check_standing(chart, standing)
    return alive_at(chart, standing)


def alive_at(chart, standing):
    """The lot of the places that are alive."""
    steps = steps_to_go(chart, standing)
    return tuple([place for place in range(chart.many()) if steps[place] is not None])


def tries(chart, standing):
    """The lot of the arrows, not found rotten, from reached places to unreached ones."""
    check_standing(chart, standing)
    return tries_at(chart, standing)


def tries_at(chart, standing):
    """The lot of the arrows, not found rotten, from reached places to unreached ones."""
    reached, rotten = standing
    inside = marks(chart.many(), reached)
    gone = marks(len(chart.arrows()), rotten)
    return tuple([
        arrow
        for arrow, (tail, head) in enumerate(chart.arrows())
        if not gone[arrow] and inside[tail] and not inside[head]
    ])


def worth(chart, standing):
    """The lot of the tries that lead to places that are alive."""
    check_standing(chart, standing)
    return worth_at(chart, standing)


def worth_at(chart, standing):
    """The lot of the tries that lead to places that are alive."""
    tried = tries_at(chart, standing)
    steps = steps_to_go(chart, standing)
    arrows = chart.arrows()
    return tuple([arrow for arrow in tried if steps[arrows[arrow][1]] is not None])


def news(chart, standing, arrow, sound):
    """The standing behind the news that this try is sound, or rotten."""
    check_standing(chart, standing)
    return checked_news_at(chart, standing, arrow, sound)


def checked_news_at(chart, standing, arrow, sound):
    """The standing behind the news; refuses what is no try, no flag, or cannot be."""
    check_try(chart, standing, arrow)
    if not is_flag(sound):
        raise NoNews()
    behind = news_at(chart, standing, arrow, sound)
    if behind is None:
        raise NoNews()
    return behind


def check_try(chart, standing, thing):
    """Refuses what is not a try of the standing."""
    if not is_index(thing, len(chart.arrows())) or thing not in tries_at(chart, standing):
        raise NoTry()


def news_at(chart, standing, arrow, sound):
    """The standing behind the news that this try is sound, or rotten; None if there is none."""
    reached, rotten = standing
    if sound:
        _, head = chart.arrows()[arrow]
        return (with_item(reached, head), rotten)
    lost = with_item(rotten, arrow)
    return (reached, lost) if goals_are_open(chart, lost) else None


def way_on(chart, standing, place):
    """The fewest arrows from an unreached place to an unreached goal, None if it is not alive."""
    _check_unreached(chart, standing, place)
    steps = steps_to_go(chart, standing)
    if steps[place] is None:
        return None
    onward = arrows_nearer(chart, standing, steps)
    way = []
    at = place
    while steps[at] > 0:
        arrow = onward[at]
        way.append(arrow)
        _, at = chart.arrows()[arrow]
    return tuple(way)


def dead_end(chart, standing, place):
    """What one comes to from a place that is not alive, and the arrows out; None if it is alive."""
    _check_unreached(chart, standing, place)
    if steps_to_go(chart, standing)[place] is not None:
        return None
    many = chart.many()
    around = steps_from(many, _unreached_pairs(chart, standing), (place,))
    places = tuple([other for other in range(many) if around[other] is not None])
    arrows = tuple([
        arrow
        for arrow, (tail, head) in enumerate(chart.arrows())
        if around[tail] is not None and around[head] is None
    ])
    return (places, arrows)


def world_with(chart, standing, arrow, sound):
    """A world that fits the standing, with this arrow sound, or rotten; None if there is none."""
    check_standing(chart, standing)
    if not is_index(arrow, len(chart.arrows())):
        raise NoArrow()
    if not is_flag(sound):
        raise NoNews()
    reached, rotten = standing
    if arrow in rotten:
        return None if sound else rotten
    if sound:
        return rotten
    # Fewer rotten arrows are never in the way: if these are too many, so are all others.
    lost = with_item(rotten, arrow)
    if holds_together(chart, reached, lost) and goals_are_open(chart, lost):
        return lost
    return None


def sure(chart, standing):
    """The lot of the arrows that are sound in every world with what is found rotten."""
    check_standing(chart, standing)
    _, rotten = standing
    # These alone lead to all goals, so without any other arrow there still is a world.
    enough = _one_into_each(chart, rotten)
    return tuple([
        arrow for arrow in enough if not goals_are_open(chart, with_item(rotten, arrow))
    ])


def steps_to_go(chart, standing):
    """A list: for each place that is alive the fewest arrows to a goal, None for all others."""
    reached, _ = standing
    inside = marks(chart.many(), reached)
    turned = [(head, tail) for tail, head in _unreached_pairs(chart, standing)]
    goals = [goal for goal in chart.goals() if not inside[goal]]
    return steps_from(chart.many(), turned, goals)


def arrows_nearer(chart, standing, steps):
    """A dict: for each place that is alive, but the goals, an arrow to a nearer one."""
    _, rotten = standing
    gone = marks(len(chart.arrows()), rotten)
    onward = {}
    for arrow, (tail, head) in enumerate(chart.arrows()):
        both = steps[tail] is not None and steps[head] is not None
        if both and not gone[arrow] and steps[head] == steps[tail] - 1:
            onward.setdefault(tail, arrow)
    return onward


def _check_unreached(chart, standing, place):
    check_standing(chart, standing)
    reached, _ = standing
    if not is_index(place, chart.many()) or place in reached:
        raise NoPlace()


def holds_together(chart, reached, rotten):
    """Whether one comes to all reached places through reached ones."""
    inside = marks(chart.many(), reached)
    left = pairs_left(chart.arrows(), rotten)
    pairs = [(tail, head) for tail, head in left if inside[tail] and inside[head]]
    return leads_to_all(chart.many(), pairs, reached)


def _unreached_pairs(chart, standing):
    """The pairs of the arrows, not found rotten, between unreached places."""
    reached, rotten = standing
    inside = marks(chart.many(), reached)
    left = pairs_left(chart.arrows(), rotten)
    return [(tail, head) for tail, head in left if not inside[tail] and not inside[head]]


def _one_into_each(chart, rotten):
    """A list, ascending: for each place that is open yet, the last arrow of a shortest way to it."""
    steps = steps_from(chart.many(), pairs_left(chart.arrows(), rotten), (0,))
    gone = marks(len(chart.arrows()), rotten)
    into = {}
    for arrow, (tail, head) in enumerate(chart.arrows()):
        if not gone[arrow] and steps[tail] is not None and steps[head] == steps[tail] + 1:
            into.setdefault(head, arrow)
    return sorted(into.values())
