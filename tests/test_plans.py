"""Promise [9]: plans in all worlds, and the plans that have names."""

import unittest

from untriedways.errors import Done, NoName, NoPlan, NoStanding, NoTries, NoWorld
from untriedways.maps import Map
from untriedways.plans import sent_by, walk
from untriedways.standings import begin
from tests.plain import PlainMap
from tests.samples import CHOSEN, EXAMPLE, odd_values, pairs_of_maps

NAMES = ("first", "last", "all", "near", "far")
WRONG = [None, [], [0], (), (0, 0), (1, 0), (True,), (0, True), (3,), (0, 3), (6,), (-1,), 0, "0", {0: 0}, ((0,),)]


def plain_walk(plain, world, plan):
    """What walk returns, and the standings at which the plan is asked."""
    standing, run, stood = ((0,), ()), [], []
    while not plain.is_done(standing):
        stood.append(standing)
        run.append(tuple((arrow, arrow not in world) for arrow in plan(standing)))
        standing = plain.behind(standing, run[-1])
    return (sum(not sound for pairs in run for _, sound in pairs), run), stood


def plain_sent(plain, name, standing):
    """What the named plan sends, by lists of all ways on."""
    worthy = plain.worth(standing)
    if name == "all" or not worthy:
        return worthy
    if name in ("first", "last"):
        return (min(worthy),) if name == "first" else (max(worthy),)
    fewest = [min(len(way) for way in plain.ways_on(standing, plain.arrows[arrow][1])) for arrow in worthy]
    pick = min(fewest) if name == "near" else max(fewest)
    return (next(arrow for arrow, steps in zip(worthy, fewest) if steps == pick),)


class WalkTest(unittest.TestCase):
    def test_plans_of_all_kinds_in_all_worlds(self):
        for chart, plain in pairs_of_maps():
            plans = [
                plain.tries,
                lambda standing: plain.tries(standing)[:1],
                lambda standing: plain.tries(standing)[-1:],
                lambda standing: plain.tries(standing)[:2],
                plain.worth,
                lambda standing: plain.worth(standing)[-1:],
            ]
            for world in plain.worlds:
                for plan in plans:
                    self.one(chart, plain, world, plan)

    def one(self, chart, plain, world, plan):
        right, stood = plain_walk(plain, world, plan)
        asked = []

        def noted(standing):
            asked.append(standing)
            return plan(standing)

        self.assertEqual(walk(chart, world, noted), right)
        self.assertEqual(asked, stood)

    def test_by_hand(self):
        chart = Map(*EXAMPLE)
        told = walk(chart, (0, 4), lambda standing: sent_by(chart, "all", standing))
        self.assertEqual(told, (1, [((0, False), (1, True)), ((3, True), (5, True))]))
        self.assertIs(type(told), tuple)
        told = walk(chart, (1, 4), lambda standing: sent_by(chart, "last", standing))
        self.assertEqual(told, (2, [((1, False),), ((0, True),), ((4, False),), ((2, True),), ((5, True),)]))

    def test_no_world_ahead_of_the_plan(self):
        asked = []
        for world in odd_values() + [(0, 1), (6,), [0], (1, 0), (True,)]:
            with self.assertRaises(NoWorld):
                walk(Map(*EXAMPLE), world, asked.append)
        self.assertEqual(asked, [])

    def test_something_else_at_the_begin(self):
        chart = Map(*EXAMPLE)
        for value in WRONG + odd_values():
            with self.assertRaises(NoPlan):
                walk(chart, (), lambda standing: value)

    def test_something_else_at_a_later_evening(self):
        chart = Map(*EXAMPLE)
        for value in WRONG + odd_values() + [(0,), (5,), (1, 3)]:
            asked = []

            def plan(standing):
                asked.append(standing)
                return (0,) if standing == begin(chart) else value

            with self.assertRaises(NoPlan):
                walk(chart, (), plan)
            self.assertEqual(asked, [((0,), ()), ((0, 1), ())])

    def test_a_plan_is_not_asked_behind_the_end(self):
        chart = Map(2, ((0, 1), (0, 1)), (1,))
        asked = []

        def plan(standing):
            asked.append(standing)
            return (0,)

        self.assertEqual(walk(chart, (1,), plan), (0, [((0, True),)]))
        self.assertEqual(asked, [((0,), ())])
        with self.assertRaises(NoPlan):
            walk(chart, (0,), plan)

    def test_errors_of_the_plan_go_on(self):
        chart = Map(*EXAMPLE)
        for error in (KeyError("k"), ValueError(), NoTries(), Done(), NoStanding(), NoPlan(), ZeroDivisionError()):
            for first in ((0,), None):
                def plan(standing):
                    if standing == begin(chart) and first is not None:
                        return first
                    raise error

                with self.assertRaises(type(error)) as caught:
                    walk(chart, (), plan)
                self.assertIs(caught.exception, error)


class SentByTest(unittest.TestCase):
    def test_all_names_at_every_standing(self):
        for chart, plain in pairs_of_maps():
            for standing in plain.standings():
                for name in NAMES:
                    told = sent_by(chart, name, standing)
                    self.assertEqual(told, plain_sent(plain, name, standing))
                    self.assertEqual(told == (), plain.is_done(standing))

    def test_the_least_of_several(self):
        chart = Map(5, ((0, 1), (0, 2), (0, 3), (1, 4), (2, 4), (3, 1), (0, 3), (3, 1)), (4,))
        self.assertEqual(sent_by(chart, "near", begin(chart)), (0,))
        self.assertEqual(sent_by(chart, "far", begin(chart)), (2,))
        self.assertEqual(sent_by(chart, "first", begin(chart)), (0,))
        self.assertEqual(sent_by(chart, "last", begin(chart)), (6,))
        self.assertEqual(sent_by(chart, "all", begin(chart)), (0, 1, 2, 6))

    def test_near_and_far_go_to_unreached_goals_through_unreached_places(self):
        # From 2 the shortest way leads through 1, which is reached; from 3 to a goal that is.
        chart = Map(6, ((0, 1), (0, 2), (0, 3), (2, 1), (1, 5), (2, 4), (4, 5), (3, 1), (3, 5)), (1, 5))
        standing = ((0, 1), ())
        self.assertEqual(sent_by(chart, "far", standing), (1,))
        self.assertEqual(sent_by(chart, "near", standing), (4,))
        self.assertEqual(sent_by(chart, "near", begin(chart)), (0,))

    def test_led_home_by_all_names_in_all_worlds(self):
        for parts in CHOSEN:
            chart, plain = Map(*parts), PlainMap(*parts)
            for world in plain.worlds:
                for name in NAMES:
                    lost, run = walk(chart, world, lambda standing: sent_by(chart, name, standing))
                    self.assertEqual(lost, sum(not sound for pairs in run for _, sound in pairs))

    def test_no_name(self):
        chart = Map(*EXAMPLE)
        wrong = ["", "First", "first ", " first", "nearest", "fir", ("first",), ["first"], {"first": "first"}, 0]
        for name in wrong + odd_values():
            for standing in (begin(chart), None, ((0, 3), ())):
                with self.assertRaises(NoName):
                    sent_by(chart, name, standing)

    def test_no_standing(self):
        chart = Map(*EXAMPLE)
        for standing in odd_values() + [((0, 3), ()), ([0], ()), ((0,), (0, 1)), ((0, True), ())]:
            for name in NAMES:
                with self.assertRaises(NoStanding):
                    sent_by(chart, name, standing)
