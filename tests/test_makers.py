"""Promise [25]: makers that are led in all worlds of small cookeries, and by the foe."""

import random
import unittest

from untriedways.errors import HasRing, NoPlan, NoWorld, TooMany
from untriedways.makers import cook, cooked_by_foe
from untriedways.recipes import Cookery, recipe_bound, recipe_tries, serving
from tests.plain import lots_of
from tests.plainkitchen import KITCHENS, PlainCookery, random_kitchens
from tests.samples import odd_values
from tests.test_recipes import pairs_of_kitchens, single

FOUR = KITCHENS[2]


class OwnError(Exception):
    """An error of a maker."""


def any_try(plain, seed):
    """A maker that tries anything, always the same at the same standing."""
    return lambda standing: random.Random(str((seed, standing))).choice(plain.tries(standing))


def wise_try(plain, pick):
    """A maker that only tries what is worth it."""
    return lambda standing: sorted(set(plain.tries(standing)) & set(plain.serving(standing)))[pick]


def foolish_makers(plain):
    yield lambda standing: plain.tries(standing)[0]
    yield lambda standing: plain.tries(standing)[-1]
    for seed in range(3):
        yield any_try(plain, seed)


class CookTest(unittest.TestCase):
    def test_in_all_worlds(self):
        for cookery, plain in pairs_of_kitchens()[:30]:
            for maker in foolish_makers(plain):
                for world in plain.worlds:
                    self.assertEqual(cook(cookery, world, maker), plain.cook(world, maker))

    def test_who_only_tries_what_is_worth_it(self):
        for cookery, plain in pairs_of_kitchens()[:20]:
            bound = plain.bound((plain.given, ()))
            for pick in (0, -1):
                lost = [cook(cookery, world, wise_try(plain, pick))[0] for world in plain.worlds]
                self.assertLessEqual(max(lost), bound)

    def test_kinds(self):
        lost, run = cook(Cookery(*FOUR), (1,), lambda standing: recipe_tries(Cookery(*FOUR), standing)[-1])
        self.assertEqual((lost, run), (1, [(1, False), (0, True), (2, True), (3, True)]))
        self.assertIs(type(run), list)
        for recipe, sound in run:
            self.assertIs(type(sound), bool)

    def test_it_is_asked_as_long_as_a_goal_is_not_there(self):
        asked = []

        def maker(standing):
            asked.append(standing)
            return (1, 0, 3)[len(asked) - 1]

        cook(Cookery(*FOUR), (), maker)
        self.assertEqual(asked, [((0,), ()), ((0, 2), ()), ((0, 1, 2), ())])

    def test_what_is_no_world(self):
        cookery, plain = Cookery(*FOUR), PlainCookery(*FOUR)

        def maker(standing):
            raise OwnError()

        for lot in lots_of(4):
            with self.assertRaises(OwnError if lot in plain.worlds else NoWorld):
                cook(cookery, lot, maker)
        for wrong in [[], [1], (4,), (-1,), (2, 1), (1, 1), (True,), "1", 1, None, (1, 5)] + odd_values():
            if wrong != ():
                with self.assertRaises(NoWorld):
                    cook(cookery, wrong, maker)

    def test_forty_recipes(self):
        cookery = single(40)
        lost, run = cook(cookery, tuple(range(39)), lambda standing: recipe_tries(cookery, standing)[0])
        self.assertEqual((lost, run[-1], len(run)), (39, (39, True), 40))


class FoeTest(unittest.TestCase):
    def foe_by_words(self, plain, maker):
        """The same, answered one by one as the document says."""
        kept = plain.serving((plain.given, ()))
        standing, run, rotten = (plain.given, ()), [], set()
        while not plain.is_done(standing):
            recipe = maker(standing)
            thing = plain.recipes[recipe][1]
            others = {other for other in kept if other != recipe and plain.recipes[other][1] == thing}
            sound = recipe in kept and others <= rotten
            run.append((recipe, sound))
            rotten |= set() if sound else {recipe}
            standing = plain.news(standing, recipe, sound)
        return len(rotten), run, tuple(sorted(rotten))

    def test_small_cookeries(self):
        rings = 0
        for cookery, plain in pairs_of_kitchens():
            if plain.has_ring(plain.serving((plain.given, ()))):
                rings += 1
                with self.assertRaises(HasRing):
                    cooked_by_foe(cookery, lambda standing: None)
            else:
                for maker in [*foolish_makers(plain), wise_try(plain, 0), wise_try(plain, -1)]:
                    told = cooked_by_foe(cookery, maker)
                    self.assertEqual(told, self.foe_by_words(plain, maker))
                    lost, run, rotten = told
                    self.assertGreaterEqual(lost, recipe_bound(cookery))
                    self.assertEqual(cook(cookery, rotten, maker), (lost, run))
        self.assertGreater(rings, 3)

    def test_rings_of_recipes_that_do_not_serve(self):
        # 1 out of 2 and 2 out of 1, but the goal takes 1 alone, so that 2 serves for nothing else.
        cookery = Cookery(4, (0,), (((0,), 1), ((1,), 2), ((2,), 1), ((1,), 3)), (3,))
        self.assertEqual(serving(cookery, ((0,), ())), (0, 3))
        lost, run, rotten = cooked_by_foe(cookery, lambda standing: recipe_tries(cookery, standing)[0])
        self.assertEqual((lost, run, rotten), (1, [(0, True), (1, False), (3, True)], (1,)))

    def test_in_full(self):
        cookery = single(3)
        told = cooked_by_foe(cookery, lambda standing: recipe_tries(cookery, standing)[-1])
        self.assertEqual(told, (2, [(2, False), (1, False), (0, True)], (1, 2)))
        self.assertIs(type(told[2]), tuple)

    def test_the_order_of_the_errors(self):
        ring = (((0,), 1), ((0,), 2), ((1,), 2), ((2,), 1), ((1,), 3), ((2,), 3))
        with self.assertRaises(HasRing):
            cooked_by_foe(Cookery(4, (0,), ring, (3,)), lambda standing: None)
        with self.assertRaises(HasRing):
            cooked_by_foe(Cookery(4, (0,), ring + ring, (3,)), lambda standing: None)
        for cookery in (Cookery(4, (0,), ring + ring + ring[:1], (3,)), single(13)):
            with self.assertRaises(TooMany) as caught:
                cooked_by_foe(cookery, lambda standing: None)
            self.assertEqual(caught.exception.most, 12)
        self.assertEqual(cooked_by_foe(single(12), lambda standing: len(standing[1]))[0], 11)


class NoPlanTest(unittest.TestCase):
    def both(self, cookery, maker, error):
        with self.assertRaises(error):
            cook(cookery, (), maker)
        with self.assertRaises(error):
            cooked_by_foe(cookery, maker)

    def test_wrong_at_the_begin(self):
        for wrong in [2, 3, 4, -1, "0", (0,), [0], True, False] + odd_values():
            self.both(Cookery(*FOUR), lambda standing: wrong, NoPlan)

    def test_wrong_later(self):
        # What is there is no try any more; neither is what was found rotten.
        self.both(Cookery(*FOUR), lambda standing: 0, NoPlan)
        for wrong in [0, 4, None, (3,), True]:
            self.both(Cookery(*FOUR), lambda standing: wrong if len(standing[0]) > 1 else 0, NoPlan)
        with self.assertRaises(NoPlan):
            cook(single(3), (0,), lambda standing: 0)

    def test_a_flag_is_no_recipe_though_it_equals_one(self):
        cookery = Cookery(*FOUR)
        for flag in (True, False):
            def maker(standing):
                return flag if standing == ((0,), ()) else recipe_tries(cookery, standing)[0]

            self.both(cookery, maker, NoPlan)

    def test_errors_of_its_own(self):
        for error in (OwnError, KeyError, ValueError, RecursionError, NoWorld, TooMany):
            def maker(standing):
                if len(standing[0]) > 1:
                    raise error("own")
                return 0

            self.both(Cookery(*FOUR), maker, error)

    def test_more_random_cookeries(self):
        for parts in random_kitchens(6, 8, 10, 5):
            cookery, plain = Cookery(*parts), PlainCookery(*parts)
            for world in plain.worlds[::7]:
                maker = any_try(plain, 1)
                self.assertEqual(cook(cookery, world, maker), plain.cook(world, maker))


if __name__ == "__main__":
    unittest.main()
