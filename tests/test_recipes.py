"""Promise [25]: cookeries, against a plain search of all makings."""

import unittest

from untriedways.errors import NoCookery, NoNews, NoStanding, NoTry, TooMany
from untriedways.maps import Map
from untriedways.parts import on_ways, worst
from untriedways.recipes import (
    Cookery,
    kitchen_order,
    recipe_bound,
    recipe_news,
    recipe_table,
    recipe_tries,
    recipe_worst,
    serving,
)
from untriedways.standings import news, tries
from tests.plain import lots_of
from tests.plainkitchen import KITCHENS, PlainCookery, random_kitchens
from tests.samples import CHOSEN, nested, odd_values
from tests.test_parts import random_maps

FOUR = KITCHENS[2]


def pairs_of_kitchens():
    rows = KITCHENS + random_kitchens(4, 5, 25, 1) + random_kitchens(5, 6, 15, 2)
    return [(Cookery(*parts), PlainCookery(*parts)) for parts in rows]


def single(many):
    """A cookery of so many recipes for one thing."""
    return Cookery(2, (0,), (((0,), 1),) * many, (1,))


class CookeryTest(unittest.TestCase):
    def refused(self, part, *parts):
        with self.assertRaises(NoCookery) as caught:
            Cookery(*parts)
        self.assertEqual(caught.exception.part, part)

    def test_parts_are_returned(self):
        for parts in KITCHENS:
            told = Cookery(*parts)
            self.assertEqual((told.many(), told.given(), told.recipes(), told.goals()), parts)

    def test_equal(self):
        for one in KITCHENS:
            for other in KITCHENS:
                self.assertIs(Cookery(*one) == Cookery(*other), one == other)
                self.assertIs(Cookery(*one) != Cookery(*other), one != other)
        told = Cookery(*FOUR)
        for value in odd_values() + [FOUR, Map(2, ((0, 1),), (1,))]:
            self.assertIs(told == value, False)
        base = (4, (0, 1), (((0,), 2), ((0,), 3)), (2,))
        for other in [
            (5, (0, 1), (((0,), 2), ((0,), 3)), (2,)),
            (4, (0,), (((0,), 2), ((0,), 3)), (2,)),
            (4, (0, 1), (((0,), 3), ((0,), 2)), (2,)),
            (4, (0, 1), (((0,), 2), ((0,), 3)), (3,)),
        ]:
            self.assertIs(Cookery(*base) == Cookery(*other), False)

    def test_how_many_things(self):
        line = tuple(((thing,), thing + 1) for thing in range(39))
        self.assertEqual(Cookery(40, (0,), line, (39,)).many(), 40)
        self.assertEqual(Cookery(2, (0,), (((0,), 1),), (1,)).many(), 2)
        for many in [1, 0, -1, 41, "2", (2,)] + odd_values():
            self.refused("many", many, (0,), (((0,), 1),), (1,))
            self.refused("many", many, None, None, None)

    def test_what_is_given(self):
        for given in [[0], (1, 0), (0, 0), (4,), (-1,), (True,), ("0",), "0", 0] + odd_values():
            if given != ():
                self.refused("given", 4, given, FOUR[2], FOUR[3])
                self.refused("given", 4, given, None, None)
        # Nothing is given: so nothing can be made.
        self.refused("goals", 4, (), FOUR[2], FOUR[3])
        self.refused("goals", 4, (), (), (1,))
        self.refused("recipes", 4, (), None, (1,))
        self.refused("goals", 2, (0, 1), (), (1,))

    def test_how_many_recipes(self):
        self.assertEqual(len(single(40).recipes()), 40)
        self.refused("recipes", 2, (0,), (((0,), 1),) * 41, (1,))
        self.refused("goals", 2, (0,), (), (1,))

    def test_what_is_no_recipe(self):
        wrong = [
            ((), 1),
            ((0,), 0),
            ((1,), 1),
            ((0, 1), 1),
            ((1,), 0),
            ((0,), 4),
            ((4,), 1),
            ((0,), -1),
            ((-1,), 1),
            ((1, 0), 2),
            ((0, 0), 1),
            ([0], 1),
            [(0,), 1],
            ((0,), True),
            ((False,), 1),
            ((0,), "1"),
            ((0,), (1,)),
            (0, 1),
            ((0,),),
            ((0,), 1, 1),
            nested(30, lambda value: (value, value)),
        ]
        for recipe in wrong + odd_values():
            self.refused("recipes", 4, (0,), (((0,), 1), recipe), (1,))
            self.refused("recipes", 4, (0,), (recipe, ((0,), 1)), ())
        for recipes in [[((0,), 1)], {0: ((0,), 1)}, "", 1] + [value for value in odd_values() if value != ()]:
            self.refused("recipes", 4, (0,), recipes, (1,))
            self.refused("recipes", 4, (0,), recipes, None)

    def test_what_are_no_goals(self):
        # Thing 3 can only be made out of itself, by way of 2.
        rows = (((0,), 1), ((3,), 2), ((2,), 3))
        self.assertEqual(Cookery(4, (0,), rows, (1,)).goals(), (1,))
        for goals in [(), (0,), (0, 1), (2,), (1, 3), (4,), (1, 1), [1], (True,), ("1",), 1, "1"] + odd_values():
            self.refused("goals", 4, (0,), rows, goals)
        self.assertEqual(Cookery(*FOUR[:3], (1, 2, 3)).goals(), (1, 2, 3))
        self.refused("goals", *FOUR[:3], (2, 1))


class StandingTest(unittest.TestCase):
    def test_just_the_standings_are_taken(self):
        for cookery, plain in pairs_of_kitchens()[:28]:
            right = set(plain.standings())
            self.assertIn((plain.given, ()), right)
            for made in lots_of(plain.many):
                for rotten in lots_of(len(plain.recipes)):
                    if (made, rotten) in right:
                        self.assertEqual(recipe_tries(cookery, (made, rotten)), plain.tries((made, rotten)))
                    else:
                        self.refused(cookery, (made, rotten))

    def refused(self, cookery, standing):
        for call, more in ((recipe_tries, ()), (serving, ()), (recipe_news, (0, True)), (recipe_news, (None, 1))):
            with self.assertRaises(NoStanding):
                call(cookery, standing, *more)

    def test_values_of_other_forms(self):
        wrong = [
            ((0,),),
            ((0,), (), ()),
            [(0,), ()],
            ([0], ()),
            ((0,), []),
            ((False,), ()),
            ((0, True), ()),
            ((0,), (True,)),
            ((0, 4), ()),
            ((-1, 0), ()),
            ((0,), (4,)),
            ((0,), (-1,)),
            ((1, 0), ()),
            ((0, 0), ()),
            ((0,), (1, 0)),
            (0, ()),
            ((0,), 0),
            ((0,), None),
            ((0,), "0"),
            ((0, 10 ** 5000), ()),
            (nested(29, lambda value: (value,)), ()),
            (Cookery(*FOUR), ()),
            ((0,), Cookery(*FOUR)),
        ]
        for value in wrong + odd_values():
            self.refused(Cookery(*FOUR), value)
        # Ahead of the recipes that are too many.
        for value in odd_values() + [((0, 2), ()), ((0,), (13,)), ((1,), ())]:
            self.refused(single(13), value)

    def test_serving_tries_and_news_at_every_standing(self):
        for cookery, plain in pairs_of_kitchens():
            for standing in plain.standings():
                self.assertEqual(serving(cookery, standing), plain.serving(standing))
                self.assertEqual(recipe_tries(cookery, standing), plain.tries(standing))
                for recipe in range(len(plain.recipes)):
                    for sound in (False, True):
                        self.one_news(cookery, plain, standing, recipe, sound)

    def one_news(self, cookery, plain, standing, recipe, sound):
        if recipe not in plain.tries(standing):
            error = NoTry
        elif plain.news(standing, recipe, sound) is None:
            error = NoNews
        else:
            self.assertEqual(recipe_news(cookery, standing, recipe, sound), plain.news(standing, recipe, sound))
            return
        with self.assertRaises(error):
            recipe_news(cookery, standing, recipe, sound)

    def test_news_that_are_refused(self):
        cookery = Cookery(*FOUR)
        begin = ((0,), ())
        for recipe in [2, 3, 4, -1, "0", (0,)] + odd_values():
            for sound in (True, False, None, 1):
                with self.assertRaises(NoTry):
                    recipe_news(cookery, begin, recipe, sound)
        for sound in [0, 1, "True"] + [value for value in odd_values() if not isinstance(value, bool)]:
            with self.assertRaises(NoNews):
                recipe_news(cookery, begin, 0, sound)
        with self.assertRaises(NoNews):
            recipe_news(cookery, begin, 0, False)
        self.assertEqual(recipe_news(cookery, begin, 1, False), ((0,), (1,)))

    def test_a_try_that_does_not_serve(self):
        cookery = Cookery(*KITCHENS[6])
        self.assertEqual(serving(cookery, ((0,), ())), (0,))
        self.assertEqual(recipe_tries(cookery, ((0,), ())), (0, 1))
        self.assertEqual(recipe_news(cookery, ((0,), ()), 1, True), ((0, 2), ()))
        self.assertEqual(recipe_news(cookery, ((0,), ()), 1, False), ((0,), (1,)))
        # When all goals are there nothing serves, and there still are tries.
        self.assertEqual(serving(cookery, ((0, 1), ())), ())
        self.assertEqual(recipe_tries(cookery, ((0, 1), ())), (1, 4, 5))
        self.assertEqual(recipe_news(cookery, ((0, 1), ()), 5, True), ((0, 1, 5), ()))


class ServingTest(unittest.TestCase):
    def too_many(self, most, call, *told):
        with self.assertRaises(TooMany) as caught:
            call(*told)
        self.assertEqual(caught.exception.most, most)

    def test_12_recipes_and_13(self):
        self.assertEqual(serving(single(12), ((0,), ())), tuple(range(12)))
        self.assertEqual(recipe_bound(single(12)), 11)
        rows = recipe_table(single(12))
        self.assertEqual(len(rows), 2 * (2 ** 12 - 1))
        self.assertEqual(rows[(0,), (3, 5)], 9)
        self.assertEqual(rows[(0, 1), (3, 5)], 0)
        for call in (recipe_bound, recipe_table):
            self.too_many(12, call, single(13))
            self.too_many(12, call, single(40))
        self.too_many(12, serving, single(13), ((0,), ()))
        # Found rotten, or for a thing that is there: they do not count.
        self.assertEqual(serving(single(13), ((0,), (7,))), (0, 1, 2, 3, 4, 5, 6, 8, 9, 10, 11, 12))
        self.assertEqual(serving(single(40), ((0, 1), ())), ())
        self.assertEqual(serving(single(40), ((0,), tuple(range(28)))), tuple(range(28, 40)))
        self.too_many(12, serving, single(40), ((0,), tuple(range(27))))

    def test_recipes_that_do_not_serve_count(self):
        rows = (((0,), 1),) * 6 + (((0,), 2),) * 7
        self.too_many(12, recipe_bound, Cookery(3, (0,), rows, (1,)))
        self.assertEqual(recipe_bound(Cookery(3, (0,), rows[:-1], (1,))), 5)
        self.assertEqual(recipe_tries(Cookery(3, (0,), rows, (1,)), ((0,), ())), tuple(range(13)))
        self.too_many(12, serving, Cookery(4, (0,), rows[:12] + (((3,), 1),), (1,)), ((0,), ()))

    def test_bounds_and_tables_against_a_plain_search(self):
        for cookery, plain in pairs_of_kitchens():
            self.assertEqual(recipe_bound(cookery), plain.bound((plain.given, ())))
            self.assertEqual(recipe_table(cookery), plain.table())

    def test_9_recipes_and_10(self):
        self.assertEqual(recipe_worst(single(9)), 8)
        self.too_many(9, recipe_worst, single(10))
        self.assertEqual(recipe_worst(Cookery(10, (0,), tuple(((0,), thing) for thing in range(1, 10)), (1, 9))), 0)

    def test_worst_against_all_makers(self):
        ringed = 0
        for cookery, plain in pairs_of_kitchens():
            self.assertEqual(recipe_worst(cookery), plain.worst())
            self.assertLessEqual(recipe_worst(cookery), recipe_bound(cookery))
            if plain.has_ring(plain.serving((plain.given, ()))):
                ringed += 1
            else:
                self.assertEqual(recipe_worst(cookery), recipe_bound(cookery))
        self.assertGreater(ringed, 3)


class OrderTest(unittest.TestCase):
    def test_each_thing_behind_all_that_it_takes(self):
        seen = set()
        for cookery, plain in pairs_of_kitchens():
            order = kitchen_order(cookery)
            ring = plain.has_ring(range(len(plain.recipes)))
            seen.add(ring)
            if ring:
                self.assertIsNone(order)
            else:
                self.assertIs(type(order), tuple)
                self.assertEqual(sorted(order), list(range(plain.many)))
                for lot, thing in plain.recipes:
                    for used in lot:
                        self.assertLess(order.index(used), order.index(thing))
        self.assertEqual(seen, {True, False})

    def test_rings_of_recipes_that_can_never_be_done_count(self):
        self.assertIsNone(kitchen_order(Cookery(4, (0,), (((0,), 1), ((2,), 3), ((3,), 2)), (1,))))
        self.assertIsNone(kitchen_order(Cookery(*KITCHENS[5])))

    def test_forty_things(self):
        line = tuple(((thing + 1,), thing) for thing in range(39))
        self.assertEqual(kitchen_order(Cookery(40, (39,), line, (0,))), tuple(range(39, -1, -1)))


class MapTest(unittest.TestCase):
    """A map is a cookery whose recipes use one thing each."""

    def test_maps_without_arrows_to_the_start(self):
        rows = CHOSEN + random_maps(4, 6, 40, 8) + random_maps(5, 8, 20, 8)
        rows = [parts for parts in rows if all(head for _, head in parts[1])]
        self.assertGreater(len(rows), 15)
        for many, arrows, goals in rows:
            chart = Map(many, arrows, goals)
            cookery = Cookery(many, (0,), tuple(((tail,), head) for tail, head in arrows), goals)
            self.assertEqual(recipe_worst(cookery), worst(chart))
            if len(goals) == 1:
                self.assertEqual(serving(cookery, ((0,), ())), on_ways(chart))
            self.followed(chart, cookery, ((0,), ()), 3)

    def followed(self, chart, cookery, standing, deep):
        self.assertEqual(recipe_tries(cookery, standing), tries(chart, standing))
        for arrow in tries(chart, standing):
            behind = news(chart, standing, arrow, True)
            self.assertEqual(recipe_news(cookery, standing, arrow, True), behind)
            if deep > 0:
                self.followed(chart, cookery, behind, deep - 1)


if __name__ == "__main__":
    unittest.main()
