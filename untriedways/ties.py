"""Ties: arrows that can be gone both ways, rotten both ways or not at all."""

from untriedways.maps import Map, check_pairs
from untriedways.searches import steps_from

MOST_TIES = 30


def tie_map(many, ties, goals):
    """The map in which each tie is two arrows, as the pair tells and turned about."""
    check_pairs(many, ties, MOST_TIES)
    return Map(many, tuple(_both_ways(ties)), goals)


def on_tie_ways(many, ties, goals):
    """The lot of the ties that lie on ways, in either sense."""
    tie_map(many, ties, goals)
    return _on_ways(many, ties, goals)


def tie_worst(many, ties, goals):
    """The worst of the ties, one life for a tie."""
    tie_map(many, ties, goals)
    kept = [ties[tie] for tie in _on_ways(many, ties, goals)]
    return len(kept) - len(_places_of(kept)) + 1


def tie_part(many, ties, goals):
    """A part of the map with one of the two arrows of each tie that lies on ways, and no others."""
    tie_map(many, ties, goals)
    lot = _on_ways(many, ties, goals)
    order = _ordered(many, [ties[tie] for tie in lot], goals)
    at = {place: k for k, place in enumerate(order)}
    arrows = [2 * tie if at[ties[tie][0]] < at[ties[tie][1]] else 2 * tie + 1 for tie in lot]
    return (tuple(order), tuple(arrows))


def _both_ways(pairs):
    """A list: each pair, and behind it the pair turned about."""
    found = []
    for tail, head in pairs:
        found.extend([(tail, head), (head, tail)])
    return found


def _places_of(pairs):
    return sorted(set([place for pair in pairs for place in pair]))


def _with_home(many, ties, goals):
    """All pairs, both ways, with one place more, home, to which all goals are tied."""
    return _both_ways(list(ties) + [(goal, many) for goal in goals])


def _on_ways(many, ties, goals):
    """The lot of the ties on ways: those that no one place cuts off.

    Were home tied to the start, a way and this tie would make a ring. A tie lies on such a ring
    if, whatever place is taken out, it still hangs together with the tie of the start and home.
    """
    web = _with_home(many, ties, goals) + [(0, many), (many, 0)]
    kept = list(range(len(ties)))
    for place in range(many + 1):
        pairs = [(tail, head) for tail, head in web if place not in (tail, head)]
        steps = steps_from(many + 1, pairs, (many if place == 0 else 0,))
        # The place that is taken out has no steps, so the other end of its ties decides.
        kept = [tie for tie in kept if steps[ties[tie][0]] is not None or steps[ties[tie][1]] is not None]
    return tuple(kept)


def _ordered(many, ties, goals):
    """The list of the places on ways, the start first, each other one behind a neighbour, and
    each that is no goal ahead of one.

    It begins with the start and home. What is not there yet is put in along paths from one place
    that is there to another one: all of such a path right behind the earlier end.
    """
    web = _with_home(many, ties, goals)
    places = _places_of(web)
    order = [0, many]
    while len(order) < len(places):
        first, path = _path_off(many, web, order)
        last = path.pop()
        if order.index(last) < order.index(first):
            first = last
            path.reverse()
        behind = order.index(first) + 1
        order = order[:behind] + path + order[behind:]
    order.pop()
    return order


def _path_off(many, web, order):
    """The tuple of a place of the order and a path on from it, through places that are not in the
    order, to another one that is.
    """
    first, at = [(tail, head) for tail, head in web if tail in order and head not in order][0]
    pairs = [(tail, head) for tail, head in web if first not in (tail, head)]
    steps = steps_from(many + 1, pairs, [place for place in order if place != first])
    path = [at]
    while steps[at] > 0:
        at = [head for tail, head in pairs if tail == at and steps[head] == steps[tail] - 1][0]
        path.append(at)
    return (first, path)
