"""Cookeries: things that are made out of other things by recipes, some of which are rotten."""

from untriedways.cores import bits
from untriedways.errors import NoCookery, NoNews, NoStanding, NoTry, TooMany
from untriedways.kitchens import Kitchen, things_in_order, things_made
from untriedways.smallmaps import packed
from untriedways.values import is_flag, is_index, is_integer, is_lot

FEWEST_THINGS = 2
MOST_THINGS = 40
MOST_RECIPES = 40
MOST_OPEN = 12
FEW_RECIPES = 9


class Cookery:
    """Things, some of which are given, recipes for others, and goals."""

    def __init__(self, many, given, recipes, goals):
        if not is_integer(many) or not FEWEST_THINGS <= many <= MOST_THINGS:
            raise NoCookery("many")
        if not is_lot(given, many):
            raise NoCookery("given")
        if not _are_recipes(recipes, many, given):
            raise NoCookery("recipes")
        if not _are_goals(goals, many, given, recipes):
            raise NoCookery("goals")
        self._many = many
        self._given = given
        self._recipes = recipes
        self._goals = goals

    def many(self):
        """How many things there are."""
        return self._many

    def given(self):
        """The lot of the things that are there at the begin."""
        return self._given

    def recipes(self):
        """The tuple of the pairs (lot, thing)."""
        return self._recipes

    def goals(self):
        """The lot of the goals."""
        return self._goals

    def __eq__(self, other):
        return (
            isinstance(other, Cookery)
            and self._many == other._many
            and self._given == other._given
            and self._recipes == other._recipes
            and self._goals == other._goals
        )


def serving(cookery, standing):
    """The lot of the recipes that serve."""
    kitchen = Kitchen(cookery)
    made, rotten = _checked(cookery, kitchen, standing)
    return tuple(bits(serving_at(kitchen, made, rotten)))


def serving_at(kitchen, made, rotten):
    """The recipes that serve, as bits, at what is known to be a standing."""
    if len(kitchen.open_recipes(made, rotten)) > MOST_OPEN:
        raise TooMany(MOST_OPEN)
    return _all_of(kitchen.makings(made, rotten))


def recipe_tries(cookery, standing):
    """The lot of the recipes, not found rotten, that can be done for things that are not there."""
    kitchen = Kitchen(cookery)
    made, rotten = _checked(cookery, kitchen, standing)
    return tuple(kitchen.untried(made, rotten))


def recipe_news(cookery, standing, recipe, sound):
    """The standing behind the news that this try is sound, or rotten."""
    kitchen = Kitchen(cookery)
    made, rotten = _checked(cookery, kitchen, standing)
    if not is_index(recipe, len(cookery.recipes())) or recipe not in kitchen.untried(made, rotten):
        raise NoTry()
    if not is_flag(sound):
        raise NoNews()
    behind = kitchen.behind(made, rotten, recipe, sound)
    if behind is None:
        raise NoNews()
    return _standing_of(behind)


def kitchen_order(cookery):
    """All things, each behind all that any recipe for it uses; None if the recipes make a ring."""
    order = things_in_order(cookery.many(), Kitchen(cookery).rows)
    return None if order is None else tuple(order)


def recipe_bound(cookery):
    """The number of the recipes that serve at the begin less that of the things that they make."""
    kitchen = Kitchen(cookery)
    return _bound(kitchen, serving_at(kitchen, kitchen.stock, 0))


def recipe_worst(cookery):
    """The least number of lost lives that is enough for some maker, whatever is rotten."""
    if len(cookery.recipes()) > FEW_RECIPES:
        raise TooMany(FEW_RECIPES)
    kitchen = Kitchen(cookery)
    return _least_lost(kitchen, kitchen.stock, 0, {})


def recipe_table(cookery):
    """The dict from all standings to which tries that serve lead to the bounds there."""
    kitchen = Kitchen(cookery)
    first = (kitchen.stock, 0)
    bounds = {first: _bound(kitchen, serving_at(kitchen, kitchen.stock, 0))}
    known = {}
    layer = [first]
    while layer:
        fresh = []
        for made, rotten in layer:
            for behind in _behind_all(kitchen, made, rotten, _serving_known(kitchen, made, rotten, known)):
                if behind not in bounds:
                    there, lost = behind
                    bounds[behind] = _bound(kitchen, _serving_known(kitchen, there, lost, known))
                    fresh.append(behind)
        layer = fresh
    return {_standing_of(here): bounds[here] for here in bounds}


def _are_recipes(thing, many, given):
    if not isinstance(thing, tuple) or len(thing) > MOST_RECIPES:
        return False
    return all([_is_recipe(pair, many, given) for pair in thing])


def _is_recipe(thing, many, given):
    if not isinstance(thing, tuple) or len(thing) != 2:
        return False
    lot, made = thing
    if not is_lot(lot, many) or len(lot) == 0 or not is_index(made, many):
        return False
    return made not in lot and made not in given


def _are_goals(thing, many, given, recipes):
    if not is_lot(thing, many) or len(thing) == 0:
        return False
    there = things_made(packed(given), [(packed(lot), made) for lot, made in recipes])
    return all([goal not in given and there >> goal & 1 == 1 for goal in thing])


def _checked(cookery, kitchen, thing):
    """The standing as bits; refuses what is none."""
    if not isinstance(thing, tuple) or len(thing) != 2:
        raise NoStanding()
    made, rotten = thing
    if not is_lot(made, cookery.many()) or not is_lot(rotten, len(cookery.recipes())):
        raise NoStanding()
    if not kitchen.holds(packed(made), packed(rotten)):
        raise NoStanding()
    return (packed(made), packed(rotten))


def _standing_of(here):
    """The standing that is kept as bits."""
    made, rotten = here
    return (tuple(bits(made)), tuple(bits(rotten)))


def _all_of(makings):
    """All recipes of these makings."""
    found = 0
    for making in makings:
        found |= making
    return found


def _bound(kitchen, kept):
    """How many more of these recipes there are than of the things that they make."""
    made = packed([kitchen.rows[recipe][1] for recipe in bits(kept)])
    return len(bits(kept)) - len(bits(made))


def _serving_known(kitchen, made, rotten, known):
    """The recipes that serve; known keeps for what is made all makings, whatever is rotten."""
    if made not in known:
        known[made] = kitchen.makings(made, 0)
    return _all_of([making for making in known[made] if making & rotten == 0])


def _behind_all(kitchen, made, rotten, kept):
    """The list of the standings behind all news of those of these recipes that are tries."""
    tried = [recipe for recipe in kitchen.untried(made, rotten) if kept >> recipe & 1]
    found = [kitchen.behind(made, rotten, recipe, sound) for recipe in tried for sound in (False, True)]
    return [behind for behind in found if behind is not None]


def _least_lost(kitchen, made, rotten, known):
    """The lives that are enough from there on; known gets the number for each standing."""
    if kitchen.is_home(made):
        return 0
    if (made, rotten) not in known:
        tried = kitchen.untried(made, rotten)
        known[made, rotten] = min([_lost_by(kitchen, made, rotten, known, recipe) for recipe in tried])
    return known[made, rotten]


def _lost_by(kitchen, made, rotten, known, recipe):
    """The lives that are enough if this recipe is tried first."""
    there, _ = kitchen.behind(made, rotten, recipe, True)
    most = _least_lost(kitchen, there, rotten, known)
    lost = kitchen.behind(made, rotten, recipe, False)
    if lost is not None:
        most = max(most, 1 + _least_lost(kitchen, made, lost[1], known))
    return most
