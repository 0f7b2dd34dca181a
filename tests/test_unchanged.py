"""Promise [3]: nothing is changed, and equal calls give equal results."""

import copy
import unittest

from untriedways.errors import NoStanding
from untriedways.maps import Map, is_world
from untriedways.standings import (
    alive,
    begin,
    dead_end,
    is_done,
    news,
    sure,
    tries,
    way_on,
    world_with,
    worth,
)
from tests.samples import EXAMPLE

DEAD = (5, ((0, 1), (0, 2), (2, 3), (3, 2), (3, 0), (1, 4)), (4,))

# Functions, and what is passed behind the map.
CALLS = [
    (begin, ()),
    (is_world, ((0, 2),)),
    (is_done, (((0,), ()),)),
    (alive, (((0,), ()),)),
    (tries, (((0,), ()),)),
    (worth, (((0,), ()),)),
    (sure, (((0,), ()),)),
    (news, (((0,), ()), 0, True)),
    (news, (((0,), ()), 1, False)),
    (way_on, (((0,), ()), 2)),
    (dead_end, (((0,), ()), 2)),
    (world_with, (((0,), ()), 1, False)),
]


def kinds(value):
    """The value with the kinds of all that is in it, so that True and 1 differ."""
    if isinstance(value, tuple):
        return (tuple, tuple(kinds(item) for item in value))
    return (type(value), value)


class UnchangedTest(unittest.TestCase):
    def test_equal_calls_give_equal_results(self):
        for parts in (EXAMPLE, DEAD):
            for call, told in CALLS:
                with self.subTest(call=call.__name__):
                    first = call(Map(*parts), *told)
                    self.assertEqual(kinds(first), kinds(call(Map(*parts), *copy.deepcopy(told))))

    def test_what_is_returned_holds_nothing_that_could_be_changed(self):
        for parts in (EXAMPLE, DEAD):
            for call, told in CALLS:
                self.only_plain(call(Map(*parts), *told))

    def only_plain(self, value):
        if isinstance(value, tuple):
            for item in value:
                self.only_plain(item)
        else:
            self.assertIn(type(value), (int, bool, type(None)))

    def test_the_map_stays_as_it_was(self):
        for parts in (EXAMPLE, DEAD):
            chart = Map(*parts)
            for call, told in CALLS:
                call(chart, *told)
                self.assertTrue(chart == Map(*parts))
                self.assertEqual((chart.many(), chart.arrows(), chart.goals()), parts)

    def test_refused_arguments_stay_as_they_were(self):
        chart = Map(*EXAMPLE)
        for value in ([[0], []], ([0], [1]), {0: [0]}, [(0,), ()]):
            before = copy.deepcopy(value)
            for call, told in CALLS[2:]:
                with self.assertRaises(NoStanding):
                    call(chart, value, *told[1:])
                self.assertEqual(value, before)
            self.assertIs(is_world(chart, value), False)
            self.assertEqual(value, before)

    def test_a_refused_call_changes_no_later_answer(self):
        chart = Map(*EXAMPLE)
        before = [call(chart, *told) for call, told in CALLS]
        for call, told in CALLS[2:]:
            with self.assertRaises(NoStanding):
                call(chart, ((0, 3), ()), *told[1:])
        self.assertEqual([call(chart, *told) for call, told in CALLS], before)

    def test_results_may_be_passed_on(self):
        chart = Map(*EXAMPLE)
        standing = begin(chart)
        while not is_done(chart, standing):
            standing = news(chart, standing, worth(chart, standing)[-1], True)
        self.assertEqual(standing, ((0, 2, 3), ()))
        again = Map(chart.many(), chart.arrows(), chart.goals())
        self.assertTrue(again == chart)
        self.assertTrue(is_world(chart, world_with(chart, standing, 0, False)))
