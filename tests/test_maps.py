"""Promise [6]: maps and worlds."""

import unittest

from untriedways.errors import NoMap
from untriedways.maps import Map, great_map, is_world
from tests.samples import EXAMPLE, lots_of, nested, odd_values, pairs_of_maps

LINE = ((0, 1), (1, 2))


def line(many):
    """The arrows of a line of so many places."""
    return tuple((place, place + 1) for place in range(many - 1))


class MapTest(unittest.TestCase):
    def refused(self, part, *parts):
        with self.assertRaises(NoMap) as caught:
            Map(*parts)
        self.assertEqual(caught.exception.part, part)

    def test_parts_are_returned(self):
        chart = Map(*EXAMPLE)
        self.assertEqual((chart.many(), chart.arrows(), chart.goals()), EXAMPLE)
        self.assertIs(type(chart.many()), int)
        self.assertIs(type(chart.arrows()), tuple)
        self.assertIs(type(chart.goals()), tuple)

    def test_fewest_and_most_places(self):
        self.assertEqual(Map(2, ((0, 1),), (1,)).many(), 2)
        self.assertEqual(Map(40, line(40), (39,)).many(), 40)
        self.refused("many", 1, (), ())
        self.refused("many", 0, (), ())
        self.refused("many", -2, (), ())
        self.refused("many", 41, line(41), (40,))

    def test_many_is_an_integer(self):
        for value in odd_values() + [(2,), [2], "2"]:
            self.refused("many", value, ((0, 1),), (1,))

    def test_most_arrows(self):
        sixty = ((0, 1),) * 60
        self.assertEqual(Map(2, sixty, (1,)).arrows(), sixty)
        self.refused("arrows", 2, ((0, 1),) * 61, (1,))

    def test_arrows_are_a_tuple_of_pairs_of_unlike_places(self):
        wrong = [
            [(0, 1), (1, 2)],
            ([0, 1], (1, 2)),
            ((0, 1), [1, 2]),
            ((0, 1), (1, 1)),
            ((0, 0), (0, 1), (1, 2)),
            ((0, 1), (1, 3)),
            ((0, 1), (3, 2)),
            ((0, 1), (1, 2), (-1, 2)),
            ((0, 1), (1, 2), (2, -1)),
            ((0, True), (1, 2)),
            ((False, 1), (1, 2)),
            ((0, 1), (1, 2, 0)),
            ((0, 1), (1,)),
            ((0, 1), ()),
            ((0, 1), 1),
            ((0, 1), "12"),
            ((0, 1), (1, "2")),
            ((0, 1), (1, None)),
            ((0, 1), {1: 2}),
            ((0, 1), (1, (2,))),
            "arrows",
            0,
            {0: (0, 1)},
            nested(30, lambda value: (value,)),
            nested(30, lambda value: (value, value)),
        ]
        for arrows in wrong:
            self.refused("arrows", 3, arrows, (2,))

    def test_arrows_may_be_of_any_wrong_kind(self):
        for value in odd_values():
            self.refused("arrows", 2, value, (1,))

    def test_no_arrows_come_to_no_goal(self):
        self.refused("goals", 2, (), (1,))

    def test_goals_are_a_lot_of_places_within_reach(self):
        wrong = [
            (),
            (0,),
            (0, 2),
            (2, 1),
            (1, 1),
            (3,),
            (1, 3),
            (4,),
            (1, 5),
            (-1, 2),
            [2],
            (True,),
            (1, True),
            ("2",),
            ((2,),),
            2,
            "2",
            {2: 2},
        ]
        # Place 3 leads on, but no way of arrows leads to it.
        for goals in wrong:
            self.refused("goals", 4, ((0, 1), (1, 2), (3, 2)), goals)

    def test_goals_may_be_of_any_wrong_kind(self):
        for value in odd_values():
            self.refused("goals", 2, ((0, 1),), value)

    def test_goals_may_be_all_places_but_the_start(self):
        self.assertEqual(Map(3, LINE, (1, 2)).goals(), (1, 2))

    def test_a_goal_may_be_reached_through_another_one_alone(self):
        self.assertEqual(Map(4, ((2, 3), (1, 2), (0, 1)), (1, 2, 3)).goals(), (1, 2, 3))

    def test_arrows_against_their_sense_lead_nowhere(self):
        self.refused("goals", 3, ((0, 1), (2, 1)), (2,))
        self.refused("goals", 2, ((1, 0),), (1,))

    def test_the_first_wrong_part_is_named(self):
        self.refused("many", 41, [], [])
        self.refused("many", True, ((0, 0),), ())
        self.refused("many", 1, ((0, 1),), (0,))
        self.refused("arrows", 2, ((0, 2),), (0,))
        self.refused("arrows", 2, [(0, 1)], [1])
        self.refused("arrows", 2, ((0, 1),) * 61, ())

    def test_equal_parts_are_equal(self):
        self.assertTrue(Map(*EXAMPLE) == Map(*EXAMPLE))
        self.assertFalse(Map(*EXAMPLE) != Map(*EXAMPLE))
        self.assertIs(Map(*EXAMPLE) == Map(*EXAMPLE), True)

    def test_other_parts_are_not(self):
        chart = Map(3, LINE, (2,))
        others = [
            Map(4, LINE, (2,)),
            Map(3, LINE + ((0, 2),), (2,)),
            Map(3, ((1, 2), (0, 1)), (2,)),
            Map(3, LINE, (1, 2)),
            Map(3, LINE, (1,)),
        ]
        for other in others:
            self.assertIs(chart == other, False)
            self.assertIs(other == chart, False)
            self.assertTrue(chart != other)

    def test_other_values_are_not(self):
        class Anything:
            def __eq__(self, other):
                return True

        chart = Map(2, ((0, 1),), (1,))
        for value in odd_values() + [(2, ((0, 1),), (1,)), Map, Anything()]:
            if not isinstance(value, Map):
                self.assertIs(chart == value, False)

    def test_parallel_arrows_are_several(self):
        chart = Map(2, ((0, 1), (0, 1)), (1,))
        self.assertEqual(len(chart.arrows()), 2)
        self.assertTrue(is_world(chart, (0,)))
        self.assertTrue(is_world(chart, (1,)))
        self.assertFalse(is_world(chart, (0, 1)))


class WorldTest(unittest.TestCase):
    def test_against_all_ways(self):
        for chart, plain in pairs_of_maps():
            for lot in lots_of(len(plain.arrows)):
                self.assertIs(is_world(chart, lot), lot in plain.worlds, (chart.arrows(), lot))

    def test_every_goal_is_to_be_open(self):
        chart = Map(3, ((0, 1), (0, 2), (1, 2)), (1, 2))
        self.assertTrue(is_world(chart, ()))
        self.assertTrue(is_world(chart, (1,)))
        self.assertTrue(is_world(chart, (2,)))
        self.assertFalse(is_world(chart, (0,)))
        self.assertFalse(is_world(chart, (1, 2)))

    def test_values_that_are_no_lots_of_arrows(self):
        chart = Map(2, ((0, 1), (0, 1), (1, 0), (1, 0)), (1,))
        self.assertTrue(is_world(chart, (0, 2)))
        wrong = [[0, 2], (2, 0), (0, 0), (0, 4), (-1, 0), (False, 2), (0, True), (0, "2"), "", [], {}]
        for value in wrong + odd_values():
            self.assertIs(is_world(chart, value), False, repr(type(value)))


class GreatMapTest(unittest.TestCase):
    def test_it_is_a_map_however_great(self):
        chart = great_map(5000, line(5000) * 2, (7, 4999))
        self.assertIs(type(chart), Map)
        self.assertEqual(chart.many(), 5000)
        self.assertEqual(len(chart.arrows()), 2 * 4999)
        self.assertEqual(chart.goals(), (7, 4999))
        self.assertTrue(is_world(chart, tuple(range(4999))))
        self.assertTrue(is_world(chart, (6, 7, 4999)))
        self.assertFalse(is_world(chart, (4998, 2 * 4999 - 1)))
        self.assertFalse(is_world(chart, (2 * 4999,)))

    def test_it_is_equal_to_the_same_map_constructed(self):
        self.assertTrue(great_map(*EXAMPLE) == Map(*EXAMPLE))
        self.assertTrue(Map(*EXAMPLE) == great_map(*EXAMPLE))
        self.assertFalse(great_map(5000, line(5000), (9,)) == great_map(5000, line(5000), (8,)))
