"""A plain search over all lots of recipes of a small cookery, straight from the document's words.

It shares no code with the package.
"""

import random

from tests.plain import lots_of


class PlainCookery:
    """The parts of a cookery, and all of its worlds."""

    def __init__(self, many, given, recipes, goals):
        self.many, self.given, self.recipes, self.goals = many, given, recipes, goals
        self.worlds = [lot for lot in lots_of(len(recipes)) if self.opens_goals(lot)]

    def made_by(self, start, lot, within):
        """What one comes to have by these recipes, no other things than those within."""
        there = set(start)
        for _ in self.recipes:
            for recipe in lot:
                needs, thing = self.recipes[recipe]
                if set(needs) <= there and thing in within:
                    there.add(thing)
        return there

    def left(self, rotten):
        return [recipe for recipe in range(len(self.recipes)) if recipe not in rotten]

    def opens_goals(self, rotten):
        return set(self.goals) <= self.made_by(self.given, self.left(rotten), range(self.many))

    def is_standing(self, made, rotten):
        return (
            set(self.given) <= set(made)
            and self.made_by(self.given, self.left(rotten), made) == set(made)
            and all(set(self.recipes[recipe][0]) <= set(made) for recipe in rotten)
            and self.opens_goals(rotten)
        )

    def standings(self):
        return [
            (made, rotten)
            for made in lots_of(self.many)
            for rotten in lots_of(len(self.recipes))
            if self.is_standing(made, rotten)
        ]

    def is_done(self, standing):
        return set(self.goals) <= set(standing[0])

    def tries(self, standing):
        made, rotten = standing
        return tuple(
            recipe
            for recipe, (needs, thing) in enumerate(self.recipes)
            if recipe not in rotten and set(needs) <= set(made) and thing not in made
        )

    def news(self, standing, recipe, sound):
        """The standing behind the news, None if there is none."""
        made, rotten = standing
        if sound:
            behind = (tuple(sorted({*made, self.recipes[recipe][1]})), rotten)
        else:
            behind = (made, tuple(sorted({*rotten, recipe})))
        return behind if self.is_standing(*behind) else None

    def is_making(self, standing, lot):
        made, rotten = standing
        things = [self.recipes[recipe][1] for recipe in lot]
        if set(lot) & set(rotten) or len(set(things)) < len(things) or set(things) & set(made):
            return False
        there = self.made_by(made, lot, range(self.many))
        if there != {*made, *things} or not set(self.goals) <= there:
            return False
        used = {thing for recipe in lot for thing in self.recipes[recipe][0]}
        # Nothing uses what it makes, so who uses a thing is another recipe.
        return set(things) - set(self.goals) <= used

    def serving(self, standing):
        found = set()
        for lot in lots_of(len(self.recipes)):
            if self.is_making(standing, lot):
                found.update(lot)
        return tuple(sorted(found))

    def bound(self, standing):
        kept = self.serving(standing)
        return len(kept) - len({self.recipes[recipe][1] for recipe in kept})

    def table(self):
        found = {}
        layer = [(self.given, ())]
        while layer:
            fresh = []
            for standing in layer:
                if standing not in found:
                    found[standing] = self.bound(standing)
                    kept = set(self.serving(standing)) & set(self.tries(standing))
                    told = [self.news(standing, recipe, sound) for recipe in kept for sound in (False, True)]
                    fresh.extend(behind for behind in told if behind is not None)
            layer = fresh
        return found

    def worst(self):
        """The least number of lost lives by the best maker, by trying all of them."""
        known = {}

        def lost(standing):
            if standing not in known:
                known[standing] = 0
                if not self.is_done(standing):
                    known[standing] = min(max(self.lost_by(standing, recipe, lost)) for recipe in self.tries(standing))
            return known[standing]

        return lost((self.given, ()))

    def lost_by(self, standing, recipe, lost):
        yield lost(self.news(standing, recipe, True))
        rotten = self.news(standing, recipe, False)
        if rotten is not None:
            yield 1 + lost(rotten)

    def cook(self, rotten, maker):
        standing, run = (self.given, ()), []
        while not self.is_done(standing):
            run.append((maker(standing), maker(standing) not in rotten))
            standing = self.news(standing, *run[-1])
        return sum(not sound for _, sound in run), run

    def has_ring(self, lot):
        """Whether some thing is used for itself, by way of others."""
        uses = {thing: set() for thing in range(self.many)}
        for recipe in lot:
            uses[self.recipes[recipe][1]].update(self.recipes[recipe][0])
        for _ in range(self.many):
            for thing in uses:
                uses[thing] = uses[thing].union(*(uses[other] for other in uses[thing]))
        return any(thing in uses[thing] for thing in uses)


# Each with what is special about it.
KITCHENS = [
    # One recipe, and several for one thing.
    (2, (0,), (((0,), 1),), (1,)),
    (2, (0,), (((0,), 1),) * 4, (1,)),
    # A thing that needs two others; two ways to one of them.
    (4, (0,), (((0,), 1), ((0,), 2), ((1,), 2), ((1, 2), 3)), (3,)),
    # A goal that is used for another one.
    (4, (0, 1), (((0,), 2), ((1,), 2), ((0, 2), 3), ((1,), 3)), (2, 3)),
    # A ring: 1 out of 2 and 2 out of 1, each out of what is given as well.
    (4, (0,), (((0,), 1), ((0,), 2), ((1,), 2), ((2,), 1), ((1,), 3), ((2,), 3)), (3,)),
    (4, (0,), (((0,), 1), ((1,), 2), ((2,), 1), ((2,), 3)), (3,)),
    # Recipes that do not serve: for what nothing uses, out of what cannot be made, out of a goal.
    (6, (0,), (((0,), 1), ((0,), 2), ((3,), 1), ((4,), 1), ((1,), 4), ((0, 1), 5)), (1,)),
    # The map of the document's example, with arrows as recipes.
    (4, (0,), (((0,), 1), ((0,), 2), ((1,), 2), ((2,), 1), ((1,), 3), ((2,), 3)), (1, 3)),
    # Two goals that share what they need.
    (5, (0,), (((0,), 1), ((0,), 1), ((1,), 2), ((1, 2), 3), ((1,), 4), ((0,), 4)), (3, 4)),
    # Given things that are not 0, and one that nothing uses.
    (5, (2, 3, 4), (((2,), 0), ((3,), 0), ((0, 3), 1), ((2, 3), 1)), (1,)),
]


def random_kitchens(many, size, count, seed, fit=lambda plain: True):
    """Some cookeries of so many things and recipes."""
    dice = random.Random(seed)
    found = []
    while len(found) < count:
        given = tuple(sorted(dice.sample(range(many), dice.randint(1, 2))))
        rows = []
        while len(rows) < size:
            lot = tuple(sorted(dice.sample(range(many), dice.choice((1, 1, 2, 2, 3)))))
            thing = dice.randrange(many)
            if thing not in lot and thing not in given:
                rows.append((lot, thing))
        others = [thing for thing in range(many) if thing not in given]
        goals = tuple(sorted(dice.sample(others, dice.randint(1, min(2, len(others))))))
        plain = PlainCookery(many, given, tuple(rows), goals)
        if plain.opens_goals(()) and fit(plain):
            found.append((many, given, tuple(rows), goals))
    return found
