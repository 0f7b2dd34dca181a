"""Makers, led by what is rotten or by the foe."""

from untriedways.cores import bits
from untriedways.errors import HasRing, NoPlan, NoWorld
from untriedways.kitchens import Kitchen, things_in_order
from untriedways.recipes import serving_at
from untriedways.smallmaps import packed
from untriedways.values import is_index, is_lot


def cook(cookery, rotten, maker):
    """Leads the maker until all goals are there: the tuple (lost, run)."""
    kitchen = Kitchen(cookery)
    if not is_lot(rotten, len(cookery.recipes())) or not kitchen.can_be(packed(rotten)):
        raise NoWorld()
    run, lost = _led(kitchen, maker, lambda recipe, found: recipe not in rotten)
    return (len(lost), run)


def cooked_by_foe(cookery, maker):
    """Leads the maker by the answers of the foe: the tuple (lost, run, rotten)."""
    kitchen = Kitchen(cookery)
    kept = serving_at(kitchen, kitchen.stock, 0)
    rows = {recipe: kitchen.rows[recipe] for recipe in bits(kept)}
    if things_in_order(cookery.many(), list(rows.values())) is None:
        raise HasRing()
    run, lost = _led(kitchen, maker, lambda recipe, found: _is_sound(rows, recipe, found))
    return (len(lost), run, lost)


def _is_sound(rows, recipe, found):
    """The answer of the foe: of the recipes that serve for one thing only the last one is sound."""
    if recipe not in rows:
        return False
    others = [other for other in rows if other != recipe and rows[other][1] == rows[recipe][1]]
    return all([found >> other & 1 == 1 for other in others])


def _led(kitchen, maker, answer):
    """The tuple of the run and the lot of all recipes that were found rotten.

    Answers are asked for by the recipe and by what was found rotten so far, as bits.
    """
    made = kitchen.stock
    rotten = 0
    run = []
    while not kitchen.is_home(made):
        recipe = maker((tuple(bits(made)), tuple(bits(rotten))))
        if not is_index(recipe, len(kitchen.rows)) or recipe not in kitchen.untried(made, rotten):
            raise NoPlan()
        sound = answer(recipe, rotten)
        run.append((recipe, sound))
        made, rotten = kitchen.behind(made, rotten, recipe, sound)
    return (run, tuple(bits(rotten)))
