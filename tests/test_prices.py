"""Promise [19]: prices of lives, against a plain search."""

import random
import unittest

from untriedways.errors import NoPrices, TooMany
from untriedways.maps import Map, great_map
from untriedways.parts import worst
from untriedways.prices import cheapest, price_table
from untriedways.standings import begin
from tests.plain import PlainMap
from tests.samples import CHOSEN, EXAMPLE, nested, odd_values, pairs_of_maps
from tests.test_parts import random_maps


def plain_sums(plain, prices, standing, known):
    """The least sum from there on; known gets it for each standing to which one comes."""
    if standing not in known:
        known[standing] = 0
        if not plain.is_done(standing):
            known[standing] = min(
                max(
                    plain_sums(plain, prices, behind, known) + sum(prices[one] for one, sound in pairs if not sound)
                    for pairs, behind in plain.possible(standing, (arrow,))
                )
                for arrow in plain.tries(standing)
            )
    return known[standing]


def some_prices(plain, dice):
    many = len(plain.arrows)
    yield (1,) * many
    yield (0,) * many
    yield (10 ** 9,) * many
    yield tuple(range(many))
    yield tuple(dice.randint(0, 9) for _ in range(many))
    yield tuple(dice.choice((0, 1, 10 ** 9)) for _ in range(many))


class PricesTest(unittest.TestCase):
    def test_against_a_plain_search(self):
        dice = random.Random(6)
        maps = pairs_of_maps()
        maps += [(Map(*parts), PlainMap(*parts)) for parts in random_maps(4, 7, 10, 5) + random_maps(5, 8, 6, 5)]
        for chart, plain in maps:
            for prices in some_prices(plain, dice):
                known = {}
                right = plain_sums(plain, prices, begin(chart), known)
                self.assertEqual(cheapest(chart, prices), right)
                self.assertEqual(price_table(chart, prices), known)
            self.assertEqual(cheapest(chart, (1,) * len(plain.arrows)), worst(chart))

    def test_a_bundle_of_arrows_to_one_goal(self):
        dice = random.Random(8)
        for many in range(1, 10):
            for _ in range(5):
                prices = tuple(dice.randint(0, 10 ** 9) for _ in range(many))
                chart = Map(2, ((0, 1),) * many, (1,))
                self.assertEqual(cheapest(chart, prices), sum(prices) - max(prices))

    def test_the_table_has_tries_that_are_not_worth_it_and_ends_at_the_end(self):
        chart = Map(3, ((0, 1), (0, 2)), (1,))
        rows = {((0,), ()): 0, ((0, 1), ()): 0, ((0, 2), ()): 0, ((0,), (1,)): 0, ((0, 1), (1,)): 0}
        rows[((0, 1, 2), ())] = 0
        self.assertEqual(price_table(chart, (3, 4)), rows)

    def test_the_dearest_last(self):
        chart = Map(*EXAMPLE)
        self.assertEqual(cheapest(chart, (0, 5, 0, 0, 0, 0)), 0)
        self.assertEqual(cheapest(chart, (10 ** 9, 0, 0, 0, 0, 10 ** 9)), plain_sums(
            PlainMap(*EXAMPLE), (10 ** 9, 0, 0, 0, 0, 10 ** 9), begin(chart), {}))

    def test_no_prices_ahead_of_too_many(self):
        for arrows in (1, 2, 9, 10, 60):
            chart = Map(2, ((0, 1),) * arrows, (1,))
            one = (1,) * (arrows - 1)
            wrong = [
                one,
                (*one, 1, 1),
                [*one, 1],
                (*one, True),
                (False, *one),
                (*one, -1),
                (10 ** 9 + 1, *one),
                (*one, 10 ** 5000),
                (*one, None),
                (*one, "1"),
                (*one, (1,)),
                (*one, [1]),
                (*one, {}),
                (*one, chart),
                nested(30, lambda value: (value,)),
                dict.fromkeys(range(arrows), 1),
            ]
            for value in wrong + odd_values():
                for call in (cheapest, price_table):
                    with self.assertRaises(NoPrices):
                        call(chart, value)
            for call in (cheapest, price_table):
                if arrows > 9:
                    with self.assertRaises(TooMany) as caught:
                        call(chart, (*one, 10 ** 9))
                    self.assertEqual(caught.exception.most, 9)
                else:
                    call(chart, (*one, 10 ** 9))

    def test_many_places_are_no_matter(self):
        chart = great_map(99, ((0, 98), (0, 98), (0, 50)), (98,))
        self.assertEqual(cheapest(chart, (3, 2, 1)), 2)

    def test_the_samples_have_few_arrows(self):
        self.assertTrue(all(len(parts[1]) <= 9 for parts in CHOSEN))
