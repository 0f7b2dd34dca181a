"""Promise [17]: whole ways, the lots that meet them, and how few are enough."""

import random
import unittest
from itertools import combinations

from untriedways.errors import ManyGoals, NoNumber, NoWays, TooMany
from untriedways.maps import Map, great_map
from untriedways.wholeways import met_by, ways, ways_enough
from tests.plain import PlainMap
from tests.samples import CHOSEN, EXAMPLE, nested, odd_values, pairs_of_maps
from tests.test_parts import random_maps

SEVERAL = Map(3, ((0, 1), (1, 2)), (1, 2))


def one_goal_maps():
    """Small maps with one goal, the samples and some greater ones."""
    maps = [(chart, plain) for chart, plain in pairs_of_maps() if len(plain.goals) == 1]
    for many, size in ((4, 7), (5, 9), (6, 10)):
        for parts in random_maps(many, size, 40, many + size):
            if len(parts[2]) == 1:
                maps.append((Map(*parts), PlainMap(*parts)))
    return maps


def plain_met(rows, most, many):
    """The first lot by trying all of them, fewer arrows first, then in order."""
    for size in range(most + 1):
        for lot in combinations(range(many), size):
            if all(set(lot) & set(way) for way in rows):
                return lot
    return None


def plain_enough(rows, most, many):
    """The least number of ways that no lot meets, None if all of them are met."""
    for size in range(len(rows) + 1):
        for chosen in combinations(rows, size):
            if plain_met(chosen, most, many) is None:
                return size
    return None


def bundles(*sizes):
    """A map of bundles of equal arrows, one behind another."""
    arrows = tuple((place, place + 1) for place, size in enumerate(sizes) for _ in range(size))
    return Map(len(sizes) + 1, arrows, (len(sizes),))


class WaysTest(unittest.TestCase):
    def test_against_a_plain_search(self):
        for chart, plain in one_goal_maps():
            self.assertEqual(ways(chart), plain.ways())

    def test_500_ways_and_501(self):
        arrows = ((0, 1),) * 20 + ((1, 2),) * 25
        told = ways(Map(3, arrows, (2,)))
        self.assertEqual(len(told), 500)
        self.assertEqual(told, [(one, two) for one in range(20) for two in range(20, 45)])
        self.too_many(Map(3, arrows + ((0, 2),), (2,)))
        self.assertEqual(len(ways(Map(3, arrows[:-1] + ((0, 2),), (2,)))), 481)

    def too_many(self, chart):
        with self.assertRaises(TooMany) as caught:
            ways(chart)
        self.assertEqual(caught.exception.most, 500)

    def test_very_many_ways(self):
        self.too_many(bundles(*[2] * 30))
        self.too_many(great_map(1001, tuple((k, k + 1) for k in range(1000)) * 2, (1000,)))

    def test_dead_ends_cost_no_time(self):
        # Among the places from 3 on there are very many paths, and none leads on.
        dead = tuple((place, place + 1) for place in range(3, 31) for _ in range(2))
        chart = Map(40, dead + ((0, 3), (0, 1), (1, 3), (1, 2)), (2,))
        self.assertEqual(ways(chart), [(57, 59)])
        # All of them come back to where one has been.
        chart = Map(40, dead + ((0, 1), (1, 2), (1, 3), (31, 1)), (2,))
        self.assertEqual(ways(chart), [(56, 57)])
        self.assertEqual(ways_enough(chart, 0), [(56, 57)])
        ring = [(place, other) for place in range(3, 10) for other in range(3, 10) if place != other]
        chart = Map(10, tuple(ring) + ((0, 3), (0, 1), (1, 3), (1, 2), (4, 1)), (2,))
        self.assertEqual(len(ways(chart)), 1 + self.paths_within(7))

    def paths_within(self, many):
        """How many paths lead from one to another one of so many places, all of them joined."""
        total, product = 0, 1
        for size in range(many - 1):
            total += product
            product *= many - 2 - size
        return total

    def test_one_long_way(self):
        arrows = tuple((place, place + 1) for place in range(2999))
        chart = great_map(3000, arrows + ((0, 1),), (2999,))
        first, second = ways(chart)
        self.assertEqual((first, second), (tuple(range(2999)), (2999, *range(1, 2999))))
        self.assertEqual(met_by(chart, [first, second], 1), (1,))
        self.assertEqual(ways_enough(chart, 0), [first])
        self.assertIsNone(ways_enough(chart, 1))

    def test_many_goals(self):
        for call, told in ((ways, ()), (met_by, (None, None)), (met_by, ([], 0)), (ways_enough, (None,))):
            with self.assertRaises(ManyGoals):
                call(SEVERAL, *told)


class MetByTest(unittest.TestCase):
    def test_all_ways_and_some_of_them(self):
        dice = random.Random(4)
        for chart, plain in one_goal_maps():
            rows = plain.ways()
            for chosen in (rows, rows[::2], rows[-1:], [], dice.choices(rows, k=4), rows[::-1]):
                for most in range(5):
                    self.assertEqual(met_by(chart, chosen, most), plain_met(chosen, most, len(plain.arrows)))

    def test_all_lists_of_ways_of_the_example(self):
        chart, plain = Map(*EXAMPLE), PlainMap(*EXAMPLE)
        rows = plain.ways()
        for size in range(len(rows) + 1):
            for chosen in combinations(rows, size):
                for most in range(5):
                    self.assertEqual(met_by(chart, list(chosen), most), plain_met(chosen, most, 6))

    def test_disjoint_ways(self):
        chart = Map(6, tuple((0, place) for place in range(1, 5)) + tuple((place, 5) for place in range(1, 5)), (5,))
        rows = ways(chart)
        self.assertEqual(met_by(chart, rows, 4), (0, 1, 2, 3))
        self.assertIsNone(met_by(chart, rows, 3))
        self.assertEqual(met_by(chart, rows[1:], 3), (1, 2, 3))
        more = Map(7, chart.arrows() + ((0, 6), (6, 5)), (5,))
        self.assertIsNone(met_by(more, ways(more), 4))

    def test_the_first_lot_in_order(self):
        chart = Map(4, ((2, 3), (1, 2), (0, 1), (0, 2), (0, 3)), (3,))
        rows = ways(chart)
        self.assertEqual(rows, [(2, 1, 0), (3, 0), (4,)])
        self.assertEqual(met_by(chart, rows, 4), (0, 4))
        self.assertEqual(met_by(chart, rows[:1], 4), (0,))
        self.assertEqual(met_by(chart, rows[2:], 1), (4,))

    def test_empty_lists_and_the_same_way_twice(self):
        chart = Map(*EXAMPLE)
        for most in range(5):
            self.assertEqual(met_by(chart, [], most), ())
        way = (0, 2, 5)
        self.assertEqual(met_by(chart, [way, way, way], 1), (0,))
        self.assertIsNone(met_by(chart, [way, way], 0))

    def test_never_too_many(self):
        chart = bundles(*[2] * 30)
        dice = random.Random(1)
        rows = [tuple(2 * k + dice.randint(0, 1) for k in range(30)) for _ in range(600)]
        self.assertEqual(met_by(chart, rows, 2), (0, 1))
        self.assertIsNone(met_by(chart, rows, 1))

    def test_no_ways(self):
        chart = Map(5, ((0, 1), (1, 2), (2, 1), (1, 0), (2, 3), (0, 3), (3, 4)), (3,))
        right = [(0, 1, 4), (5,)]
        self.assertEqual(met_by(chart, right, 2), (0, 5))
        wrong = [
            tuple(right),
            [right],
            [[0, 1, 4]],
            [()],
            right + [()],
            [(1, 4)],
            [(0, 4)],
            [(0, 1)],
            [(0,)],
            [(0, 1, 2)],
            [(0, 1, 2, 1, 4)],
            [(0, 3, 5)],
            [(5, 6)],
            [(5, 5)],
            [(0, 1, 4, 6)],
            [(False, 1, 4)],
            [(0, True, 4)],
            [(0, 1, 7)],
            [(-7, 1, 4)],
            [(0, 1, "4")],
            [(0, 1, None)],
            [(0, (1,), 4)],
            [5],
            ["5"],
            {0: (5,)},
            [{0: 5}],
            [right[0], nested(29, lambda value: (value, value))],
            [(10 ** 5000,)],
        ]
        for value in wrong + [value for value in odd_values() if value != []]:
            for most in (2, 5, None):
                with self.assertRaises(NoWays):
                    met_by(chart, value, most)

    def test_no_number(self):
        chart = Map(*EXAMPLE)
        for most in odd_values() + [5, -1, (0,), "0"]:
            with self.assertRaises(NoNumber):
                met_by(chart, [(0, 4)], most)
            with self.assertRaises(NoNumber):
                met_by(chart, [], most)
            with self.assertRaises(NoNumber):
                ways_enough(chart, most)


class WaysEnoughTest(unittest.TestCase):
    def test_as_few_as_can_be(self):
        for chart, plain in one_goal_maps():
            rows = plain.ways()
            if len(rows) <= 8:
                for most in range(5):
                    told = ways_enough(chart, most)
                    right = plain_enough(rows, most, len(plain.arrows))
                    self.assertEqual(None if told is None else len(told), right)
                    if told is not None:
                        self.assertTrue(set(told) <= set(rows))
                        self.assertIsNone(met_by(chart, told, most))

    def test_by_hand(self):
        chart = bundles(3, 3)
        self.assertEqual(len(ways_enough(chart, 0)), 1)
        self.assertEqual(len(ways_enough(chart, 1)), 2)
        self.assertEqual(len(ways_enough(chart, 2)), 3)
        self.assertIsNone(ways_enough(chart, 3))
        self.assertIsNone(ways_enough(Map(2, ((0, 1),), (1,)), 1))
        self.assertEqual(ways_enough(Map(2, ((0, 1),), (1,)), 0), [(0,)])

    def test_more_ways_than_most_and_one(self):
        # No two ways of K4 without an arrow in common meet at places alone.
        chart = Map(4, ((0, 1), (0, 2), (1, 2), (2, 1), (1, 3), (2, 3)), (3,))
        self.assertEqual(len(ways_enough(chart, 1)), 2)
        chart = Map(5, ((0, 1), (0, 2), (1, 2), (1, 3), (2, 3), (2, 4), (3, 4), (1, 4), (0, 3)), (4,))
        for most in range(5):
            right = plain_enough(ways(chart), most, 9)
            self.assertEqual(ways_enough(chart, most) and len(ways_enough(chart, most)), right)

    def test_twelve_ways_and_thirteen(self):
        self.assertEqual(len(ways_enough(bundles(3, 4), 2)), 3)
        self.assertEqual(len(ways_enough(Map(2, ((0, 1),) * 12, (1,)), 4)), 5)
        thirteen = Map(3, ((0, 1),) * 3 + ((1, 2),) * 4 + ((0, 2),), (2,))
        for chart in (thirteen, bundles(*[2] * 30), bundles(20, 25), bundles(10, 26, 24)):
            for most in range(5):
                with self.assertRaises(TooMany) as caught:
                    ways_enough(chart, most)
                self.assertEqual(caught.exception.most, 12)
            with self.assertRaises(NoNumber):
                ways_enough(chart, 5)
