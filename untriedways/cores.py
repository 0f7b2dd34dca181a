"""The places of a map that count, few of them, and searches through all their orders.

Among them a place is called a spot, by its index; the start is spot 0. A set of spots is
kept as the bits of an integer.
"""

from untriedways.errors import TooMany
from untriedways.searches import steps_from

MOST_COUNTED = 9


def counted_places(chart):
    """The list of the places between the start and the goals."""
    onward = steps_from(chart.many(), chart.arrows(), (0,))
    turned = [(head, tail) for tail, head in chart.arrows()]
    homeward = steps_from(chart.many(), turned, chart.goals())
    return [
        place
        for place in range(chart.many())
        if onward[place] is not None and homeward[place] is not None
    ]


def check_counted(chart):
    """Refuses maps with too many places that count."""
    if len(counted_places(chart)) > MOST_COUNTED:
        raise TooMany(MOST_COUNTED)


class Core:
    """The spots of a map, and how many arrows lead from which to which."""

    def __init__(self, chart):
        check_counted(chart)
        self.spots = counted_places(chart)
        self.size = len(self.spots)
        self.full = (1 << self.size) - 1
        at = {place: spot for spot, place in enumerate(self.spots)}
        self.ends = sum([1 << at[goal] for goal in chart.goals()])
        # For each spot the sets of the heads and the tails of the arrows from it and to it.
        self.outward = [0] * self.size
        self.inward = [0] * self.size
        between = [[0] * self.size for _ in range(self.size)]
        for tail, head in chart.arrows():
            if tail in at and head in at:
                self.outward[at[tail]] |= 1 << at[head]
                self.inward[at[head]] |= 1 << at[tail]
                between[at[head]][at[tail]] += 1
        self.sums = [_sums(row) for row in between]

    def places(self, spots):
        """The lot of the places of a set of spots."""
        return tuple([self.spots[spot] for spot in bits(spots)])


def bits(kept):
    """The ascending list of the integers that are kept as bits."""
    return [k for k in range(kept.bit_length()) if kept >> k & 1]


def _sums(row):
    """A list: for each set of spots the sum of their numbers."""
    sums = [0]
    for number in row:
        sums = sums + [total + number for total in sums]
    return sums


def excesses(core):
    """A dict from the sets of spots of all parts to their greatest excess."""
    found = {}
    chosen = 0
    # The start and the goals are in all parts.
    free = core.full - 1 - core.ends
    while True:
        spots = chosen + 1 + core.ends
        rows = orders(core, spots)
        if spots in rows:
            arrows, _ = rows[spots]
            found[spots] = arrows - len(bits(spots)) + 1
        if chosen == free:
            return found
        # The next set of free spots: a carry runs through all bits that are not free.
        chosen = (chosen - free) & free


def orders(core, spots):
    """A dict: for each set that can come first in an order of these spots, as a part has it,
    the tuple of the most arrows among them and the spot that comes last there.
    """
    found = {}
    layer = {1: 0}
    while layer:
        fresh = {}
        for first in layer:
            for spot in _next_spots(core, spots, first):
                behind = first | 1 << spot
                arrows = layer[first] + core.sums[spot][first]
                if arrows > fresh.get(behind, -1):
                    fresh[behind] = arrows
                    found[behind] = (arrows, spot)
        layer = fresh
    return found


def _next_spots(core, spots, first):
    """The list of the spots that can come next behind the first ones."""
    return [
        spot
        for spot in bits(spots - first)
        if core.sums[spot][first] > 0
        and (core.ends >> spot & 1 or core.outward[spot] & (spots - first))
    ]


def order_of(core, spots):
    """The list of these spots in an order with the greatest excess."""
    rows = orders(core, spots)
    order = []
    first = spots
    while first > 1:
        _, spot = rows[first]
        order.append(spot)
        first -= 1 << spot
    order.append(0)
    order.reverse()
    return order


def path_ends(core):
    """A dict: for each set of spots the set of those at which a path from the start ends that
    comes to just these, to none twice.
    """
    found = {1: 1}
    layer = {1: 1}
    while layer:
        fresh = {}
        for spots in layer:
            for spot in bits(layer[spots]):
                for head in bits(core.outward[spot] & (core.full - spots)):
                    behind = spots | 1 << head
                    fresh[behind] = fresh.get(behind, 0) | 1 << head
        found.update(fresh)
        layer = fresh
    return found


def spots_to_goals(core, spots):
    """The set of those of these spots from which one comes to a goal through these alone."""
    found = core.ends & spots
    while True:
        fresh = found
        for spot in bits(found):
            fresh |= core.inward[spot] & spots
        if fresh == found:
            return found
        found = fresh
