"""Promise [23]: all standings behind an evening that are not done, in order, however many they are."""

import random
import unittest

from untriedways.crowds import Crowd
from untriedways.maps import Map, great_map
from untriedways.standings import begin, is_done, tries
from tests.plain import PlainMap
from tests.samples import CHOSEN, pairs_of_maps
from tests.test_parts import random_maps


def some_maps():
    maps = pairs_of_maps() + [(Map(*parts), PlainMap(*parts)) for parts in CHOSEN]
    for many, size in ((4, 6), (5, 8)):
        maps.extend((Map(*parts), PlainMap(*parts)) for parts in random_maps(many, size, 12, size + 1))
    return maps


def told_by(crowd, most):
    """What the crowd tells, up to so many."""
    told = [crowd.next_standing()]
    while told[-1] is not None and len(told) <= most:
        told.append(crowd.next_standing())
    return told[:-1]


def at_the_begin(chart):
    return Crowd(chart, {begin(chart): tries(chart, begin(chart))})


class AgreementTest(unittest.TestCase):
    def test_evening_by_evening(self):
        many = 0
        for at, (chart, plain) in enumerate(some_maps()):
            for seed in range(6):
                dice = random.Random(str((at, seed)))
                layer = [begin(chart)]
                while layer:
                    sent = {standing: self.some_lot(plain, standing, dice) for standing in layer}
                    many += len(layer) > 1
                    layer = self.one(chart, plain, sent)
        self.assertGreater(many, 500)

    def some_lot(self, plain, standing, dice):
        if plain.is_done(standing):
            return ()
        tried = plain.tries(standing)
        return tuple(sorted(dice.sample(tried, dice.randint(1, len(tried)))))

    def one(self, chart, plain, sent):
        behind = {
            after
            for standing, lot in sent.items()
            if lot
            for _, after in plain.possible(standing, lot)
        }
        kept = list(sent.items())
        crowd = Crowd(chart, sent)
        told = told_by(crowd, len(behind))
        # A sorted set: none comes twice, though many stand at the begin.
        self.assertEqual(told, sorted(after for after in behind if not plain.is_done(after)))
        self.assertIsNone(crowd.next_standing())
        self.assertEqual(list(sent.items()), kept)
        return sorted(behind)


class GreatTest(unittest.TestCase):
    def starts(self, chart, first):
        told = told_by(at_the_begin(chart), 1000)
        self.assertEqual(len(told), 1000)
        self.assertEqual(told, sorted(set(told)))
        self.assertFalse(any(is_done(chart, standing) for standing in told))
        self.assertEqual(told[:len(first)], first)

    def test_very_many_from_the_first_one_on(self):
        # Arrow 59 must be sound as soon as all others are rotten.
        bundle = great_map(3, ((0, 1),) * 60 + ((1, 2),), (2,))
        self.starts(bundle, [((0, 1), tuple(range(many))) for many in range(60)] + [((0, 1), (*range(58), 59))])
        # Two ways to each of 39 goals; the last goal is not tried.
        arrows = tuple((0, 1 + k // 2) for k in range(78))
        pairs = great_map(40, (*arrows, (1, 39)), tuple(range(1, 40)))
        crowd = Crowd(pairs, {begin(pairs): tuple(range(76))})
        told = told_by(crowd, 100)
        reached = tuple(range(39))
        self.assertEqual(told[:3], [
            (reached, ()),
            (reached, (0,)),
            (reached, (0, 2)),
        ])
        # One way to each of 39 places that are no goals.
        fan = great_map(41, tuple((0, place) for place in range(1, 40)) + ((0, 40),), (40,))
        crowd = Crowd(fan, {begin(fan): tuple(range(39))})
        self.assertEqual(crowd.next_standing(), ((0,), tuple(range(39))))
        self.assertEqual(crowd.next_standing(), ((0, 1), tuple(range(1, 39))))
        self.assertEqual(crowd.next_standing(), ((0, 1, 2), tuple(range(2, 39))))

    def test_nothing_but_what_is_done(self):
        # 2 ** 60 - 1 standings behind the evening, and 2 ** 30 - 1 with a second goal that needs its arrow.
        self.assertIsNone(at_the_begin(great_map(2, ((0, 1),) * 60, (1,))).next_standing())
        self.assertIsNone(at_the_begin(great_map(3, ((0, 1),) * 30 + ((0, 2),), (1, 2))).next_standing())
        # All 30 goals are reached, and of 30 more places any.
        arrows = tuple((0, place) for place in range(1, 61))
        self.assertIsNone(at_the_begin(great_map(61, arrows, tuple(range(31, 61)))).next_standing())

    def test_only_a_few_of_very_many_answers(self):
        # To each of 30 goals one comes through a place of its own; to one more place only by chance.
        first = tuple((0, place) for place in range(1, 32))
        second = tuple((place, 31 + place) for place in range(1, 31))
        chart = great_map(62, first + second, tuple(range(32, 62)))
        self.assertEqual(told_by(at_the_begin(chart), 10), [
            (tuple(range(31)), (30,)),
            (tuple(range(32)), ()),
        ])
        # Two arrows to each of these places, but all found rotten that can be.
        chart = great_map(62, first[:30] + first[:30] + first[30:] + second, tuple(range(32, 62)))
        crowd = Crowd(chart, {((0,), tuple(range(30))): tuple(range(30, 61))})
        self.assertEqual(told_by(crowd, 10), [
            (tuple(range(31)), (*range(30), 60)),
            (tuple(range(32)), tuple(range(30))),
        ])

    def test_rows_of_several_standings_and_goals_side_by_side(self):
        chart = Map(4, ((0, 1), (0, 2), (0, 3)), (3,))
        sent = {((0,), (0,)): (1,), ((0, 1), ()): (1,)}
        self.assertEqual(told_by(Crowd(chart, sent), 20), [
            ((0,), (0, 1)),
            ((0, 1), (1,)),
            ((0, 1, 2), ()),
            ((0, 2), (0,)),
        ])
        self.assertIsNone(Crowd(chart, {}).next_standing())
        self.assertIsNone(Crowd(chart, {((0, 3), ()): ()}).next_standing())
        # Two goals, to each of which one comes through place 1, too.
        chart = Map(4, ((0, 2), (0, 3), (0, 1), (1, 2), (1, 3)), (2, 3))
        self.assertEqual(told_by(Crowd(chart, {begin(chart): (0, 1)}), 20), [
            ((0,), (0, 1)),
            ((0, 2), (1,)),
            ((0, 3), (0,)),
        ])


if __name__ == "__main__":
    unittest.main()
