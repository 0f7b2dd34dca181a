"""Promises [2], [4] and [7]: what is refused, with which error, and in which order."""

import unittest

from untriedways.errors import NoArrow, NoNews, NoPlace, NoStanding, NoTry
from untriedways.maps import Map
from untriedways.standings import (
    alive,
    begin,
    dead_end,
    is_done,
    news,
    sure,
    tries,
    way_on,
    world_with,
    worth,
)
from tests.samples import EXAMPLE, lots_of, nested, odd_values, pairs_of_maps

# Each function with arguments that are right behind the standing, and ones that are all wrong.
CALLS = [
    (is_done, (), ()),
    (alive, (), ()),
    (tries, (), ()),
    (worth, (), ()),
    (sure, (), ()),
    (news, (0, True), (9, 1)),
    (way_on, (3,), (0,)),
    (dead_end, (3,), (0,)),
    (world_with, (0, True), (9, 1)),
]

# Of the example; each breaks one condition.
BROKEN = [
    # The start is not reached.
    ((), ()),
    ((1,), ()),
    ((1, 2, 3), ()),
    # Nobody comes to a reached place: no arrow leads there from a reached one, or a rotten one.
    ((0, 3), ()),
    ((0, 1), (0,)),
    ((0, 1, 2), (1, 2)),
    ((0, 1, 2), (0, 1)),
    # The tail of a rotten arrow is not reached.
    ((0,), (2,)),
    ((0,), (5,)),
    ((0, 1), (0, 5)),
    ((0, 1), (3,)),
    # The goal is cut off.
    ((0,), (0, 1)),
    ((0, 1, 2), (4, 5)),
    ((0, 1), (1, 2, 4)),
]

# Of the example; neither a pair nor of lots within the map.
FORMLESS = [
    (),
    ((0,),),
    ((0,), (), ()),
    [(0,), ()],
    ([0], ()),
    ((0,), []),
    ([0, 1], [1]),
    ((False,), ()),
    ((0, True), ()),
    ((0, 1), (True,)),
    ((0,), (False,)),
    (0, ()),
    ((0,), 1),
    ((0,), None),
    (None, ()),
    ((0,), "1"),
    ("0", ()),
    ({0: True}, ()),
    ((0,), {1: True}),
    {0: (0,), 1: ()},
    "((0,), ())",
    ((0, 4), ()),
    ((0, 10 ** 5000), ()),
    ((-1, 0), ()),
    ((0,), (6,)),
    ((0,), (-1,)),
    ((0,), (-(10 ** 5000),)),
    ((1, 0), ()),
    ((0, 0), ()),
    ((0, 1, 1), ()),
    ((0, 2, 1), ()),
    ((0, 1), (4, 1)),
    ((0,), (1, 1)),
    ((0, None), ()),
    ((0, "1"), ()),
    ((0, (1,)), ()),
    ((0,), (1, [2])),
    (((0,),), ()),
    ((0,), ((1,),)),
    ((0,), ((0,), ())),
    (nested(29, lambda value: (value,)), ()),
    ((0,), nested(29, lambda value: [value])),
    ((0, nested(28, lambda value: {0: value})), ()),
    (nested(29, lambda value: (value, value)), nested(29, lambda value: (value, value))),
    (Map(*EXAMPLE), ()),
    ((0,), Map(*EXAMPLE)),
    ((0, Map(*EXAMPLE)), ()),
]


class NoStandingTest(unittest.TestCase):
    def refused(self, chart, value):
        for call, right, wrong in CALLS:
            with self.subTest(call=call.__name__):
                with self.assertRaises(NoStanding):
                    call(chart, value, *right)
                with self.assertRaises(NoStanding):
                    call(chart, value, *wrong)

    def test_each_call_is_right_with_a_standing(self):
        chart = Map(*EXAMPLE)
        for call, right, _ in CALLS:
            call(chart, begin(chart), *right)

    def test_broken_conditions(self):
        for value in BROKEN:
            self.refused(Map(*EXAMPLE), value)

    def test_values_of_other_forms(self):
        for value in FORMLESS:
            self.refused(Map(*EXAMPLE), value)

    def test_values_of_other_kinds(self):
        for value in odd_values():
            self.refused(Map(*EXAMPLE), value)

    def test_exactly_what_the_plain_search_finds_is_a_standing(self):
        for chart, plain in pairs_of_maps():
            right = set(plain.standings())
            for reached in lots_of(plain.many):
                for rotten in lots_of(len(plain.arrows)):
                    self.one(chart, (reached, rotten), (reached, rotten) in right)

    def one(self, chart, standing, right):
        if right:
            is_done(chart, standing)
        else:
            with self.assertRaises(NoStanding):
                is_done(chart, standing)

    def test_one_of_several_goals_cut_off(self):
        chart = Map(3, ((0, 1), (0, 2)), (1, 2))
        self.refused(chart, ((0, 1), (1,)))
        self.refused(chart, ((0,), (0,)))


class NoTryTest(unittest.TestCase):
    def setUp(self):
        self.chart = Map(*EXAMPLE)

    def test_what_is_no_try(self):
        standing = ((0, 1), (4,))
        self.assertEqual(tries(self.chart, standing), (1, 2))
        # Reached head; unreached tail; found rotten; beyond.
        for arrow in (0, 3, 4, 5, 6, -1, 10 ** 5000):
            for sound in (True, False, 1, None):
                with self.assertRaises(NoTry):
                    news(self.chart, standing, arrow, sound)

    def test_values_of_other_kinds(self):
        for arrow in odd_values() + [(0,), [1], "1", {1: 1}]:
            for sound in (True, False, 0, "True"):
                with self.assertRaises(NoTry):
                    news(self.chart, begin(self.chart), arrow, sound)

    def test_a_flag_is_no_arrow_though_it_equals_one(self):
        for arrow in (True, False):
            with self.assertRaises(NoTry):
                news(self.chart, begin(self.chart), arrow, True)
            with self.assertRaises(NoArrow):
                world_with(self.chart, begin(self.chart), arrow, True)


class NoNewsTest(unittest.TestCase):
    def setUp(self):
        self.chart = Map(*EXAMPLE)

    def wrong_flags(self):
        others = [value for value in odd_values() if not isinstance(value, bool)]
        return others + [0, 1, "True", (True,), [False]]

    def test_what_is_no_flag(self):
        for sound in self.wrong_flags():
            with self.assertRaises(NoNews):
                news(self.chart, begin(self.chart), 0, sound)
            with self.assertRaises(NoNews):
                world_with(self.chart, begin(self.chart), 0, sound)

    def test_the_last_arrow_to_the_goal_cannot_be_rotten(self):
        with self.assertRaises(NoNews):
            news(self.chart, ((0,), (0,)), 1, False)
        with self.assertRaises(NoNews):
            news(self.chart, ((0, 1, 2), (4,)), 5, False)

    def test_a_try_that_is_not_worth_it_can(self):
        chart = Map(3, ((0, 1), (0, 2)), (1,))
        self.assertEqual(news(chart, begin(chart), 1, False), ((0,), (1,)))


class NoPlaceTest(unittest.TestCase):
    def test_what_is_no_unreached_place(self):
        chart = Map(*EXAMPLE)
        wrong = [0, 1, 4, -1, 10 ** 5000, (2,), [2], "2", {2: 2}]
        for call in (way_on, dead_end):
            for place in wrong + odd_values():
                with self.assertRaises(NoPlace):
                    call(chart, ((0, 1), ()), place)

    def test_a_flag_is_no_place_though_it_equals_one(self):
        chart = Map(*EXAMPLE)
        for call in (way_on, dead_end):
            with self.assertRaises(NoPlace):
                call(chart, begin(chart), True)


class NoArrowTest(unittest.TestCase):
    def test_what_is_no_arrow(self):
        chart = Map(*EXAMPLE)
        wrong = [6, -1, 10 ** 5000, (0,), [0], "0", {0: 0}]
        for arrow in wrong + odd_values():
            for sound in (True, False, 1, None):
                with self.assertRaises(NoArrow):
                    world_with(chart, begin(chart), arrow, sound)

    def test_all_arrows_are_taken(self):
        chart = Map(*EXAMPLE)
        for arrow in range(6):
            self.assertEqual(world_with(chart, begin(chart), arrow, False), (arrow,))
