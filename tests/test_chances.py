"""Promise [20]: chances, against a plain search over all worlds."""

import math
import random
import unittest
from fractions import Fraction

from untriedways.chances import mean, mean_of, world_chance
from untriedways.errors import Done, NoChances, NoPlan, TooMany
from untriedways.maps import Map, great_map
from untriedways.plans import sent_by, walk
from untriedways.standings import begin, tries, worth
from tests.plain import PlainMap
from tests.samples import EXAMPLE, nested, odd_values, pairs_of_maps
from tests.test_parts import random_maps

HALF = (1, 2)
NAMES = ("first", "last", "all", "near", "far")


def weights(plain, chances):
    """The chance of each world, ahead of knowing that it is one."""
    found = {}
    for world in plain.worlds:
        found[world] = Fraction(1)
        for arrow, (part, whole) in enumerate(chances):
            found[world] *= Fraction(whole - part if arrow in world else part, whole)
    return found


def plain_mean(plain, told, standing):
    """The least sum, over these worlds, of their chances times the lost lives."""
    if plain.is_done(standing):
        return Fraction(0)
    found = []
    for arrow in plain.tries(standing):
        lost = {world: told[world] for world in told if arrow in world}
        kept = {world: told[world] for world in told if arrow not in world}
        total = Fraction(0)
        if lost:
            total += sum(lost.values()) + plain_mean(plain, lost, plain.news(standing, arrow, False))
        if kept:
            total += plain_mean(plain, kept, plain.news(standing, arrow, True))
        found.append(total)
    return min(found)


def pair(value):
    return (value.numerator, value.denominator)


def some_chances(many, dice):
    yield (HALF,) * many
    for _ in range(2):
        found = []
        for _ in range(many):
            whole = dice.choice((2, 3, 4, 7, 10, 1000))
            value = Fraction(dice.randint(1, whole - 1), whole)
            found.append(pair(value))
        yield tuple(found)


class MeanTest(unittest.TestCase):
    def test_against_a_plain_search(self):
        dice = random.Random(9)
        for chart, plain in pairs_of_maps():
            for chances in some_chances(len(plain.arrows), dice):
                told = weights(plain, chances)
                right = plain_mean(plain, told, begin(chart)) / sum(told.values())
                self.fraction(mean(chart, chances), right)
                self.fraction(world_chance(chart, chances), sum(told.values()))

    def fraction(self, told, right):
        self.assertEqual(told, pair(right))
        self.assertEqual([type(told), *map(type, told)], [tuple, int, int])

    def test_mean_of_plans_is_the_weighed_sum_over_all_worlds(self):
        dice = random.Random(10)
        maps = pairs_of_maps() + [(Map(*parts), PlainMap(*parts)) for parts in random_maps(4, 7, 10, 2)]
        for chart, plain in maps:
            plans = [lambda standing, name=name: sent_by(chart, name, standing) for name in NAMES]
            plans += [plain.tries, lambda standing: plain.tries(standing)[-2:], lambda one: plain.tries(one)[:1]]
            for chances in some_chances(len(plain.arrows), dice):
                told = weights(plain, chances)
                for plan in plans:
                    lost = sum(told[world] * walk(chart, world, plan)[0] for world in told)
                    self.fraction(mean_of(chart, chances, plan), lost / sum(told.values()))
                    best = Fraction(*mean(chart, chances))
                    if plan not in (plans[2], plans[5], plans[6]):
                        self.assertLessEqual(best, lost / sum(told.values()))

    def test_by_hand(self):
        chart = Map(2, ((0, 1), (0, 1)), (1,))
        self.assertEqual(world_chance(chart, (HALF, HALF)), (3, 4))
        self.assertEqual(mean(chart, (HALF, HALF)), (1, 3))
        self.assertEqual(mean_of(chart, (HALF, HALF), lambda standing: tries(chart, standing)), (2, 3))
        # The one with the greater chance goes first.
        self.assertEqual(mean(chart, ((1, 3), (9, 10))), (1, 28))
        self.assertEqual(mean_of(chart, ((1, 3), (9, 10)), lambda one: worth(chart, one)[:1]), (9, 14))
        sure = Map(2, ((0, 1),), (1,))
        self.assertEqual((mean(sure, (HALF,)), mean_of(sure, (HALF,), lambda one: (0,))), ((0, 1), (0, 1)))
        self.assertEqual(world_chance(sure, ((3, 7),)), (3, 7))

    def test_integers_of_any_size(self):
        one, other = 10 ** 400 + 1, 10 ** 401
        self.assertEqual(math.gcd(one, other), 1)
        chart, plain = Map(3, ((0, 1), (0, 1), (1, 2), (0, 2)), (2,)), PlainMap(3, ((0, 1), (0, 1), (1, 2), (0, 2)), (2,))
        chances = ((one, other), (1, other), HALF, (other - 1, other))
        told = weights(plain, chances)
        self.fraction(world_chance(chart, chances), sum(told.values()))
        self.fraction(mean(chart, chances), plain_mean(plain, told, begin(chart)) / sum(told.values()))
        lost = sum(told[world] * walk(chart, world, plain.worth)[0] for world in told)
        self.fraction(mean_of(chart, chances, plain.worth), lost / sum(told.values()))

    def test_nine_arrows(self):
        for parts in random_maps(4, 9, 6, 12) + random_maps(5, 9, 6, 13):
            chart, plain = Map(*parts), PlainMap(*parts)
            told = weights(plain, ((2, 3),) * 9)
            self.fraction(world_chance(chart, ((2, 3),) * 9), sum(told.values()))
            plan = lambda standing: sent_by(chart, "near", standing)
            lost = sum(told[world] * walk(chart, world, plan)[0] for world in told)
            self.fraction(mean_of(chart, ((2, 3),) * 9, plan), lost / sum(told.values()))
            self.assertLessEqual(Fraction(*mean(chart, ((2, 3),) * 9)), lost / sum(told.values()))

    def test_many_places_are_no_matter(self):
        chart = great_map(99, ((0, 98), (0, 98), (0, 50)), (98,))
        self.assertEqual(mean(chart, (HALF,) * 3), (1, 3))


class RefusedTest(unittest.TestCase):
    def test_no_chances_ahead_of_too_many(self):
        for arrows in (1, 2, 9, 10, 60):
            chart = Map(2, ((0, 1),) * arrows, (1,))
            one = (HALF,) * (arrows - 1)
            wrong = [
                one,
                (*one, HALF, HALF),
                [*one, HALF],
                (*one, [1, 2]),
                (*one, (0, 1)),
                (*one, (0, 2)),
                (*one, (1, 1)),
                (*one, (2, 1)),
                (*one, (3, 2)),
                (*one, (2, 4)),
                (*one, (-1, 2)),
                (*one, (1, -2)),
                (*one, (-1, -2)),
                (*one, (1, 0)),
                (*one, (True, 2)),
                (*one, (1, True)),
                (*one, (1,)),
                (*one, (1, 2, 1)),
                (*one, 0),
                (*one, "12"),
                (*one, (1, "2")),
                (*one, (None, 2)),
                (*one, ((1,), 2)),
                (*one, {1: 2}),
                (*one, chart),
                (*one, (10 ** 500, 10 ** 501)),
                nested(30, lambda value: (value, value)),
                dict.fromkeys(range(arrows), HALF),
            ]
            for value in wrong + odd_values():
                for call, told in ((mean, ()), (world_chance, ()), (mean_of, (self.never,)), (mean_of, (None,))):
                    with self.assertRaises(NoChances):
                        call(chart, value, *told)
            for call, told in ((mean, ()), (world_chance, ()), (mean_of, (lambda standing: worth(chart, standing)[:1],))):
                if arrows > 9:
                    with self.assertRaises(TooMany) as caught:
                        call(chart, (*one, (1, 3)), *told)
                    self.assertEqual(caught.exception.most, 9)
                else:
                    call(chart, (*one, (1, 3)), *told)
        with self.assertRaises(TooMany):
            mean_of(Map(2, ((0, 1),) * 10, (1,)), (HALF,) * 10, self.never)

    def never(self, standing):
        self.fail("the plan is asked")

    def test_no_plan_at_each_standing_to_which_it_comes(self):
        chart = Map(*EXAMPLE)
        right = lambda standing: sent_by(chart, "all", standing)
        stood = []
        mean_of(chart, (HALF,) * 6, lambda standing: stood.append(standing) or right(standing))
        self.assertEqual(len(stood), len(set(stood)))
        for there in stood:
            for value in (None, [], (), [0], (0, 0), (True,), (6,), (-1,), "0", 0, nested(30, lambda one: (one,))):
                with self.assertRaises(NoPlan):
                    mean_of(chart, (HALF,) * 6, lambda standing: value if standing == there else right(standing))

    def test_wrong_where_it_never_comes_is_no_matter(self):
        chart = Map(3, ((0, 1), (0, 2)), (1,))
        asked = []

        def plan(standing):
            asked.append(standing)
            return (0,) if standing == begin(chart) else None

        self.assertEqual(mean_of(chart, (HALF, HALF), plan), (0, 1))
        self.assertEqual(asked, [begin(chart)])

    def test_errors_of_the_plan_go_on(self):
        chart = Map(*EXAMPLE)
        for error in (KeyError("k"), Done(), NoChances(), NoPlan(), TooMany(9)):
            def plan(standing):
                if standing == begin(chart):
                    return (0, 1)
                raise error

            with self.assertRaises(type(error)) as caught:
                mean_of(chart, (HALF,) * 6, plan)
            self.assertIs(caught.exception, error)
