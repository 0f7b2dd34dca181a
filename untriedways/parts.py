"""Parts of a map, from which a foe takes lives from every plan, and the worst for all plans."""

from untriedways.cores import Core, bits, excesses, order_of, path_ends, spots_to_goals
from untriedways.errors import ManyGoals, NoPart
from untriedways.maps import great_map
from untriedways.values import is_index, is_lot


def worst(chart):
    """The greatest excess of any part."""
    return max(list(excesses(Core(chart)).values()))


def part(chart):
    """A part with the greatest excess."""
    core = Core(chart)
    spots = _greatest_sets(core)[0]
    order = tuple([core.spots[spot] for spot in order_of(core, spots)])
    return (order, onward_arrows(chart, order))


def onward_arrows(chart, order):
    """The lot of all arrows from an earlier to a later place of the order."""
    at = {place: k for k, place in enumerate(order)}
    return tuple([
        arrow
        for arrow, (tail, head) in enumerate(chart.arrows())
        if tail in at and head in at and at[tail] < at[head]
    ])


def part_fault(chart, thing):
    """The first thing that is wrong with a part, None if nothing is."""
    if not _has_part_form(chart, thing):
        return ("form",)
    order, arrows = thing
    if len(order) == 0 or order[0] != 0 or not all([goal in order for goal in chart.goals()]):
        return ("ends",)
    onward = onward_arrows(chart, order)
    for arrow in arrows:
        if arrow not in onward:
            return ("back", arrow)
    heads = [chart.arrows()[arrow][1] for arrow in arrows]
    for place in order[1:]:
        if place not in heads:
            return ("in", place)
    tails = [chart.arrows()[arrow][0] for arrow in arrows]
    for place in order:
        if place not in chart.goals() and place not in tails:
            return ("out", place)
    return None


def check_part(chart, thing):
    """Refuses what is not a part of the map."""
    if part_fault(chart, thing) is not None:
        raise NoPart()


def excess(thing):
    """How many more arrows than places a part has, plus 1."""
    if not isinstance(thing, tuple) or len(thing) != 2:
        raise NoPart()
    order, arrows = thing
    if not isinstance(order, tuple) or not isinstance(arrows, tuple):
        raise NoPart()
    return len(arrows) - len(order) + 1


def greatest_lots(chart):
    """The ascending list of the lots of places of all parts with the greatest excess."""
    core = Core(chart)
    return sorted([core.places(spots) for spots in _greatest_sets(core)])


def turned(chart):
    """The map with all arrows turned about, the start and the goal exchanged."""
    check_one_goal(chart)
    goal = chart.goals()[0]
    new = list(range(chart.many()))
    new[0] = goal
    new[goal] = 0
    arrows = tuple([(new[head], new[tail]) for tail, head in chart.arrows()])
    return great_map(chart.many(), arrows, (goal,))


def check_one_goal(chart):
    """Refuses maps with several goals."""
    if len(chart.goals()) != 1:
        raise ManyGoals()


def on_ways(chart):
    """The lot of the arrows that lie on ways."""
    core = Core(chart)
    ends = path_ends(core)
    leading = [0] * core.size
    for spots in ends:
        onward = spots_to_goals(core, core.full - spots)
        for spot in bits(ends[spots]):
            leading[spot] |= core.outward[spot] & onward
    at = {place: spot for spot, place in enumerate(core.spots)}
    return tuple([
        arrow
        for arrow, (tail, head) in enumerate(chart.arrows())
        if tail in at and head in at and leading[at[tail]] >> at[head] & 1
    ])


def _greatest_sets(core):
    """The list of the sets of spots of all parts with the greatest excess."""
    found = excesses(core)
    greatest = max(list(found.values()))
    return [spots for spots in found if found[spots] == greatest]


def _has_part_form(chart, thing):
    if not isinstance(thing, tuple) or len(thing) != 2:
        return False
    order, arrows = thing
    return _are_unlike_places(chart, order) and is_lot(arrows, len(chart.arrows()))


def _are_unlike_places(chart, thing):
    if not isinstance(thing, tuple):
        return False
    if not all([is_index(place, chart.many()) for place in thing]):
        return False
    return len(set(thing)) == len(thing)
