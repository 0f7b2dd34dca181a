"""Promise [7]: standings, against the document's example and a plain search."""

import unittest

from untriedways.errors import NoNews, NoTry
from untriedways.maps import Map, great_map
from untriedways.standings import (
    alive,
    begin,
    dead_end,
    is_done,
    news,
    sure,
    tries,
    way_on,
    world_with,
    worth,
)
from tests.samples import EXAMPLE, pairs_of_maps


def every_standing():
    """Each standing of each sample map: the map, the plain one, the standing."""
    for chart, plain in pairs_of_maps():
        for standing in plain.standings():
            yield chart, plain, standing


class ExampleTest(unittest.TestCase):
    def test_the_example_of_the_document(self):
        chart = Map(4, ((0, 1), (0, 2), (1, 2), (2, 1), (1, 3), (2, 3)), (3,))
        self.assertEqual(worth(chart, begin(chart)), (0, 1))
        self.assertEqual(worth(chart, news(chart, begin(chart), 0, True)), (1, 2, 4))

    def test_the_begin(self):
        for chart, _ in pairs_of_maps():
            self.assertEqual(begin(chart), ((0,), ()))
            self.assertIs(is_done(chart, begin(chart)), False)

    def test_a_run_on_the_example(self):
        chart = Map(*EXAMPLE)
        standing = news(chart, begin(chart), 1, False)
        self.assertEqual(standing, ((0,), (1,)))
        self.assertEqual(tries(chart, standing), (0,))
        self.assertEqual(sure(chart, standing), (0,))
        with self.assertRaises(NoNews):
            news(chart, standing, 0, False)
        standing = news(chart, standing, 0, True)
        self.assertEqual(standing, ((0, 1), (1,)))
        standing = news(chart, standing, 4, False)
        self.assertEqual(standing, ((0, 1), (1, 4)))
        self.assertEqual(sure(chart, standing), (0, 2, 5))
        self.assertEqual(way_on(chart, standing, 2), (5,))
        standing = news(chart, news(chart, standing, 2, True), 5, True)
        self.assertEqual(standing, ((0, 1, 2, 3), (1, 4)))
        self.assertIs(is_done(chart, standing), True)


class ByHandTest(unittest.TestCase):
    def test_parallel_arrows_are_several_tries(self):
        chart = Map(2, ((0, 1), (0, 1), (0, 1)), (1,))
        self.assertEqual(tries(chart, begin(chart)), (0, 1, 2))
        self.assertEqual(sure(chart, begin(chart)), ())
        self.assertEqual(sure(chart, ((0,), (0, 2))), (1,))
        self.assertEqual(worth(chart, ((0,), (1,))), (0, 2))

    def test_arrows_back_to_the_start_are_no_tries(self):
        chart = Map(3, ((0, 1), (1, 0), (1, 2), (2, 0), (2, 1)), (2,))
        self.assertEqual(tries(chart, ((0, 1), ())), (2,))
        # It may be found rotten nevertheless: its tail is reached.
        self.assertEqual(tries(chart, ((0, 1), (1,))), (2,))
        self.assertEqual(dead_end(chart, begin(chart), 1), None)

    def test_dead_places(self):
        chart = Map(5, ((0, 1), (0, 2), (2, 3), (3, 2), (3, 0), (1, 4)), (4,))
        self.assertEqual(alive(chart, begin(chart)), (1, 4))
        self.assertEqual(tries(chart, begin(chart)), (0, 1))
        self.assertEqual(worth(chart, begin(chart)), (0,))
        self.assertEqual(dead_end(chart, begin(chart), 2), ((2, 3), (4,)))
        self.assertEqual(dead_end(chart, begin(chart), 3), ((2, 3), (4,)))
        self.assertEqual(dead_end(chart, ((0, 2), ()), 3), ((3,), (3, 4)))
        self.assertIsNone(way_on(chart, begin(chart), 2))

    def test_arrows_into_reached_places(self):
        # Behind the reaching of 1 the place 2 leads only to what is reached.
        chart = Map(4, ((0, 1), (0, 2), (2, 1), (1, 3), (1, 2)), (3,))
        self.assertEqual(alive(chart, begin(chart)), (1, 2, 3))
        self.assertEqual(worth(chart, begin(chart)), (0, 1))
        self.assertEqual(alive(chart, ((0, 1), ())), (3,))
        self.assertEqual(worth(chart, ((0, 1), ())), (3,))
        self.assertEqual(tries(chart, ((0, 1), ())), (1, 3, 4))
        self.assertEqual(dead_end(chart, ((0, 1), ()), 2), ((2,), (2,)))

    def test_at_a_done_standing(self):
        chart = Map(4, ((0, 1), (0, 2), (1, 3), (3, 2)), (1,))
        done = ((0, 1), ())
        self.assertIs(is_done(chart, done), True)
        self.assertEqual(alive(chart, done), ())
        self.assertEqual(worth(chart, done), ())
        self.assertEqual(tries(chart, done), (1, 2))
        self.assertEqual(news(chart, done, 1, False), ((0, 1), (1,)))
        self.assertEqual(news(chart, done, 2, True), ((0, 1, 3), ()))
        self.assertIsNone(way_on(chart, done, 2))
        self.assertEqual(dead_end(chart, done, 3), ((2, 3), ()))
        self.assertEqual(sure(chart, done), (0,))
        self.assertEqual(world_with(chart, done, 2, False), (2,))

    def test_a_goal_is_a_way_of_no_arrows_to_itself(self):
        chart = Map(3, ((0, 1), (1, 2)), (1, 2))
        self.assertEqual(way_on(chart, begin(chart), 1), ())
        self.assertEqual(way_on(chart, ((0, 1), ()), 2), ())

    def test_a_reached_goal_is_no_goal_to_go_to(self):
        chart = Map(4, ((0, 1), (0, 2), (2, 1), (0, 3)), (1, 3))
        self.assertEqual(alive(chart, begin(chart)), (1, 2, 3))
        self.assertEqual(alive(chart, ((0, 1), ())), (3,))

    def test_arrows_between_reached_places_may_be_found_rotten(self):
        chart = Map(3, ((0, 1), (1, 0), (0, 1), (1, 2)), (2,))
        standing = ((0, 1), (1, 2))
        self.assertEqual(tries(chart, standing), (3,))
        self.assertEqual(world_with(chart, standing, 2, False), (1, 2))
        self.assertIsNone(world_with(chart, standing, 2, True))
        self.assertIsNone(world_with(chart, standing, 0, False))

    def test_a_reached_place_keeps_its_arrow_though_no_goal_needs_it(self):
        chart = Map(3, ((0, 1), (0, 2)), (2,))
        self.assertIsNone(world_with(chart, ((0, 1), ()), 0, False))
        self.assertEqual(world_with(chart, begin(chart), 0, False), (0,))
        self.assertEqual(world_with(chart, begin(chart), 0, True), ())
        self.assertEqual(sure(chart, ((0, 1), ())), (1,))

    def test_a_reached_place_is_come_to_through_reached_ones(self):
        # One comes to 1 through 2 as well, but 2 is not reached.
        chart = Map(4, ((0, 1), (0, 2), (2, 1), (1, 3)), (3,))
        self.assertIsNone(world_with(chart, ((0, 1), ()), 0, False))
        self.assertEqual(world_with(chart, ((0, 1, 2), ()), 0, False), (0,))


class PlainSearchTest(unittest.TestCase):
    def test_is_done(self):
        for chart, plain, standing in every_standing():
            self.assertIs(is_done(chart, standing), plain.is_done(standing))

    def test_alive_tries_and_worth(self):
        for chart, plain, standing in every_standing():
            told = (chart.arrows(), standing)
            self.assertEqual(alive(chart, standing), plain.alive(standing), told)
            self.assertEqual(tries(chart, standing), plain.tries(standing), told)
            self.assertEqual(worth(chart, standing), plain.worth(standing), told)

    def test_sure(self):
        for chart, plain, standing in every_standing():
            told = (chart.arrows(), chart.goals(), standing)
            self.assertEqual(sure(chart, standing), plain.sure(standing), told)

    def test_news(self):
        for chart, plain, standing in every_standing():
            for arrow in range(len(plain.arrows)):
                for sound in (True, False):
                    self.one_news(chart, plain, standing, arrow, sound)

    def one_news(self, chart, plain, standing, arrow, sound):
        behind = plain.news(standing, arrow, sound)
        if arrow not in plain.tries(standing):
            with self.assertRaises(NoTry):
                news(chart, standing, arrow, sound)
        elif behind is None:
            with self.assertRaises(NoNews):
                news(chart, standing, arrow, sound)
        else:
            self.assertEqual(news(chart, standing, arrow, sound), behind)

    def test_way_on(self):
        for chart, plain, standing in every_standing():
            for place in plain.unreached(standing):
                possible = plain.ways_on(standing, place)
                way = way_on(chart, standing, place)
                if possible:
                    self.assertIn(way, possible)
                    self.assertEqual(len(way), min(len(other) for other in possible))
                else:
                    self.assertIsNone(way)

    def test_dead_end(self):
        for chart, plain, standing in every_standing():
            for place in plain.unreached(standing):
                found = dead_end(chart, standing, place)
                if place in plain.alive(standing):
                    self.assertIsNone(found)
                else:
                    self.assertEqual(found, plain.dead_end(standing, place))
                    heads = {plain.arrows[arrow][1] for arrow in found[1]}
                    self.assertLessEqual(heads, set(standing[0]))

    def test_world_with(self):
        for chart, plain, standing in every_standing():
            for arrow in range(len(plain.arrows)):
                for sound in (True, False):
                    possible = plain.worlds_with(standing, arrow, sound)
                    world = world_with(chart, standing, arrow, sound)
                    if possible:
                        self.assertIn(world, possible)
                    else:
                        self.assertIsNone(world)


class FactsTest(unittest.TestCase):
    def test_some_arrow_is_worth_a_try_and_one_is_sound(self):
        for chart, plain, standing in every_standing():
            if is_done(chart, standing):
                continue
            lot = worth(chart, standing)
            self.assertNotEqual(lot, ())
            for world in plain.worlds:
                if set(standing[1]) <= set(world):
                    self.assertFalse(set(lot) <= set(world))

    def test_rotten_arrows_never_change_what_is_alive(self):
        for chart, _, standing in every_standing():
            for arrow in tries(chart, standing):
                if world_with(chart, standing, arrow, False) is not None:
                    behind = news(chart, standing, arrow, False)
                    self.assertEqual(alive(chart, behind), alive(chart, standing))


class GreatMapTest(unittest.TestCase):
    def test_a_line_of_very_many_places(self):
        many = 3000
        chart = great_map(many, tuple((place, place + 1) for place in range(many - 1)), (many - 1,))
        standing = (tuple(range(1000)), ())
        self.assertEqual(alive(chart, standing), tuple(range(1000, many)))
        self.assertEqual(tries(chart, standing), (999,))
        self.assertEqual(worth(chart, standing), (999,))
        self.assertEqual(news(chart, standing, 999, True), (tuple(range(1001)), ()))
        self.assertEqual(way_on(chart, begin(chart), 1), tuple(range(1, many - 1)))
        self.assertIsNone(world_with(chart, standing, 2000, False))
        self.assertIs(is_done(chart, (tuple(range(many)), ())), True)

    def test_a_dead_end_of_very_many_places(self):
        many = 3000
        arrows = ((0, 1), (0, 2), *((place, place + 1) for place in range(2, many - 1)))
        chart = great_map(many, arrows, (1,))
        self.assertEqual(dead_end(chart, begin(chart), 2), (tuple(range(2, many)), ()))
        self.assertIsNone(way_on(chart, begin(chart), many - 1))

    def test_sure_on_very_many_arrows(self):
        many = 400
        line = tuple((place, place + 1) for place in range(many - 1))
        chart = great_map(many, line + line[:200], (many - 1,))
        self.assertEqual(sure(chart, begin(chart)), tuple(range(200, many - 1)))
        self.assertEqual(sure(chart, ((0,), (0,))), (*range(200, many - 1), many - 1))
