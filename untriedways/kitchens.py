"""What can be made in a kitchen, of what; lots of things and of recipes are kept as bits."""

from untriedways.cores import bits
from untriedways.smallmaps import packed


def things_made(start, rows):
    """All things that one comes to have, out of those at the start, by rows (things, thing)."""
    found = start
    before = 0
    while found != before:
        before = found
        for needs, thing in rows:
            if needs & found == needs:
                found |= 1 << thing
    return found


def things_in_order(many, rows):
    """The list of all things, each behind all that rows (things, thing) use for it; None for a ring."""
    uses = [0] * many
    for needs, thing in rows:
        uses[thing] |= needs
    order = []
    placed = 0
    while len(order) < many:
        ready = [thing for thing in range(many) if not placed >> thing & 1 and uses[thing] & placed == uses[thing]]
        if len(ready) == 0:
            return None
        order.extend(ready)
        placed |= packed(ready)
    return order


class Kitchen:
    """The recipes of a cookery, what is there at the begin, and what shall be there."""

    def __init__(self, cookery):
        self.stock = packed(cookery.given())
        self.rows = [(packed(lot), thing) for lot, thing in cookery.recipes()]
        self._ends = packed(cookery.goals())

    def is_home(self, made):
        """Whether all goals are there."""
        return self._ends & made == self._ends

    def can_be(self, rotten):
        """Whether all goals can be made without these recipes."""
        return self.is_home(things_made(self.stock, self.rows_left(rotten)))

    def rows_left(self, rotten):
        """The list of the rows of the recipes that are not among these."""
        return [row for recipe, row in enumerate(self.rows) if not rotten >> recipe & 1]

    def holds(self, made, rotten):
        """Whether it is a standing."""
        # Only by recipes for these very things, as they are made out of one another.
        inner = [(needs, thing) for needs, thing in self.rows_left(rotten) if made >> thing & 1]
        if things_made(self.stock, inner) != made:
            return False
        return all([self._has_all(made, recipe) for recipe in bits(rotten)]) and self.can_be(rotten)

    def open_recipes(self, made, rotten):
        """The ascending list of the recipes, not rotten, for things that are not there."""
        return [
            recipe
            for recipe, (_, thing) in enumerate(self.rows)
            if not made >> thing & 1 and not rotten >> recipe & 1
        ]

    def untried(self, made, rotten):
        """The ascending list of the tries."""
        return [recipe for recipe in self.open_recipes(made, rotten) if self._has_all(made, recipe)]

    def behind(self, made, rotten, recipe, sound):
        """The standing behind this news, as bits; None if there is none."""
        if sound:
            return (made | 1 << self.rows[recipe][1], rotten)
        lost = rotten | 1 << recipe
        return (made, lost) if self.can_be(lost) else None

    def makings(self, made, rotten):
        """The list of all makings.

        One recipe is chosen for each goal that is not there, then for each thing that is used
        and not there: so a making has nothing else than what it needs. What is left to see is
        whether its recipes can be done in some order.
        """
        choices = {}
        for recipe in self.open_recipes(made, rotten):
            choices.setdefault(self.rows[recipe][1], []).append(recipe)
        found = []
        begun = [(self._ends - (self._ends & made), 0, made)]
        while begun:
            needed, chosen, there = begun.pop()
            if needed == 0:
                if self._can_be_done(made, chosen, there):
                    found.append(chosen)
            else:
                thing = bits(needed)[0]
                behind = there | 1 << thing
                for recipe in choices.get(thing, []):
                    needs = needed | self.rows[recipe][0]
                    begun.append((needs - (needs & behind), chosen | 1 << recipe, behind))
        return found

    def _has_all(self, made, recipe):
        """Whether all things of the recipe are there."""
        needs, _ = self.rows[recipe]
        return needs & made == needs

    def _can_be_done(self, made, chosen, there):
        """Whether these recipes, done in some order, make just what is told, out of what is there."""
        return things_made(made, [self.rows[recipe] for recipe in bits(chosen)]) == there
