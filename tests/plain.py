"""A plain search over all ways and all worlds of a small map, straight from the document's words.

It shares no code with the package: places are joined by listing every way that
comes to no place twice, and every set of arrows is tried as a world.
"""

from itertools import chain, combinations, permutations, product


def lots_of(many):
    """All lots of integers below many."""
    sizes = [combinations(range(many), size) for size in range(many + 1)]
    return list(chain.from_iterable(sizes))


class PlainMap:
    """The parts of a map, and all of its ways from anywhere to anywhere."""

    def __init__(self, many, arrows, goals):
        self.many = many
        self.arrows = arrows
        self.goals = goals
        self.all_places = frozenset(range(many))
        self.paths = {}
        for place in range(many):
            self.walk_from(place, (place,), ())
        self.worlds = [lot for lot in lots_of(len(arrows)) if self.opens_goals(lot)]

    def walk_from(self, source, places, arrows):
        """Keeps this path and all that go on from it."""
        kept = self.paths.setdefault((source, places[-1]), [])
        kept.append((arrows, frozenset(arrows), frozenset(places)))
        for arrow, (tail, head) in enumerate(self.arrows):
            if tail == places[-1] and head not in places:
                self.walk_from(source, (*places, head), (*arrows, arrow))

    def leads(self, source, target, rotten, inside):
        """The paths from one place to another without these arrows, through these places."""
        gone = set(rotten)
        return [
            arrows
            for arrows, used, places in self.paths.get((source, target), [])
            if not used & gone and places <= inside
        ]

    def opens_goals(self, rotten):
        return all(self.leads(0, goal, rotten, self.all_places) for goal in self.goals)

    def holds_together(self, reached, rotten):
        inside = frozenset(reached)
        return all(self.leads(0, place, rotten, inside) for place in reached)

    def is_standing(self, reached, rotten):
        return (
            0 in reached
            and self.holds_together(reached, rotten)
            and all(self.arrows[arrow][0] in reached for arrow in rotten)
            and self.opens_goals(rotten)
        )

    def standings(self):
        """All standings, by trying all pairs of lots."""
        return [
            (reached, rotten)
            for reached in lots_of(self.many)
            for rotten in lots_of(len(self.arrows))
            if self.is_standing(reached, rotten)
        ]

    def is_done(self, standing):
        return set(self.goals) <= set(standing[0])

    def unreached(self, standing):
        return self.all_places - set(standing[0])

    def ways_on(self, standing, place):
        """All paths from an unreached place to an unreached goal through unreached places."""
        inside = self.unreached(standing)
        goals = [goal for goal in self.goals if goal in inside]
        return [way for goal in goals for way in self.leads(place, goal, standing[1], inside)]

    def alive(self, standing):
        return tuple(
            place for place in sorted(self.unreached(standing)) if self.ways_on(standing, place)
        )

    def tries(self, standing):
        reached, rotten = standing
        return tuple(
            arrow
            for arrow, (tail, head) in enumerate(self.arrows)
            if arrow not in rotten and tail in reached and head not in reached
        )

    def worth(self, standing):
        living = self.alive(standing)
        return tuple(arrow for arrow in self.tries(standing) if self.arrows[arrow][1] in living)

    def news(self, standing, arrow, sound):
        """The standing behind the news, None if there is none."""
        reached, rotten = standing
        if sound:
            behind = (tuple(sorted({*reached, self.arrows[arrow][1]})), rotten)
        else:
            behind = (reached, tuple(sorted({*rotten, arrow})))
        return behind if self.is_standing(*behind) else None

    def dead_end(self, standing, place):
        inside = self.unreached(standing)
        places = [one for one in sorted(inside) if self.leads(place, one, standing[1], inside)]
        arrows = [
            arrow
            for arrow, (tail, head) in enumerate(self.arrows)
            if tail in places and head not in places
        ]
        return (tuple(places), tuple(arrows))

    def worlds_with(self, standing, arrow, sound):
        """All worlds that world_with may return."""
        reached, rotten = standing
        return [
            world
            for world in self.worlds
            if set(rotten) <= set(world)
            and self.holds_together(reached, world)
            and (arrow not in world) == sound
        ]

    def sure(self, standing):
        _, rotten = standing
        fitting = [world for world in self.worlds if set(rotten) <= set(world)]
        return tuple(
            arrow
            for arrow in range(len(self.arrows))
            if arrow not in rotten and not any(arrow in world for world in fitting)
        )

    def behind(self, standing, pairs):
        """The standing behind an evening with these answers, None if there is none."""
        reached, rotten = standing
        heads = [self.arrows[arrow][1] for arrow, sound in pairs if sound]
        lost = [arrow for arrow, sound in pairs if not sound]
        found = (tuple(sorted({*reached, *heads})), tuple(sorted({*rotten, *lost})))
        return found if self.is_standing(*found) else None

    def answers(self, lot):
        """All answers that one might think of."""
        return [tuple(zip(lot, flags)) for flags in product((False, True), repeat=len(lot))]

    def possible(self, standing, lot):
        """All answers that can be, with the standing behind them."""
        told = [(pairs, self.behind(standing, pairs)) for pairs in self.answers(lot)]
        return [(pairs, behind) for pairs, behind in told if behind is not None]

    def crowds(self, standing):
        """All lots of one or more tries."""
        tried = self.tries(standing)
        return [tuple(tried[k] for k in lot) for lot in lots_of(len(tried)) if lot]

    def is_part(self, order, arrows):
        if order[0] != 0 or not set(self.goals) <= set(order):
            return False
        for arrow in arrows:
            tail, head = self.arrows[arrow]
            if tail not in order or head not in order or order.index(tail) >= order.index(head):
                return False
        tails = {self.arrows[arrow][0] for arrow in arrows}
        heads = {self.arrows[arrow][1] for arrow in arrows}
        return set(order[1:]) <= heads and set(order) - set(self.goals) <= tails

    def parts(self):
        """All parts, by trying all lots of arrows with all orders of all lots of places."""
        others = range(1, self.many)
        orders = [(0, *rest) for size in range(self.many) for rest in permutations(others, size)]
        lots = lots_of(len(self.arrows))
        return [(order, lot) for order in orders for lot in lots if self.is_part(order, lot)]

    def ways(self):
        found = [way for goal in self.goals for way in self.leads(0, goal, (), self.all_places)]
        return sorted(found)


def greatest_excess(many, arrows, goals):
    """The greatest excess of any part, and the lots of places that have it, by all orders.

    In each order all arrows that lead on are taken: more arrows never do harm there.
    """
    found = {}
    for size in range(1, many):
        for rest in permutations(range(1, many), size):
            order = (0, *rest)
            if set(goals) <= set(order):
                at = {place: k for k, place in enumerate(order)}
                onward = [pair for pair in arrows if at.get(pair[0], many) < at.get(pair[1], -1)]
                heads = {head for _, head in onward}
                tails = {tail for tail, _ in onward}
                if set(rest) <= heads and set(order) - set(goals) <= tails:
                    found.setdefault(len(onward) - len(order) + 1, set()).add(tuple(sorted(order)))
    return max(found), sorted(found[max(found)])
