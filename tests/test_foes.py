"""Promise [11]: the foe, against its own words and the worlds that it tells."""

import unittest

from untriedways.errors import Done, NoNumber, NoPart, NoPlan, NoTries, TooMany
from untriedways.foes import Foe, led_by_foe
from untriedways.maps import Map, great_map, is_world
from untriedways.parts import excess, part, worst
from untriedways.plans import sent_by
from untriedways.runs import Party, run_fault
from untriedways.standings import begin
from tests.plain import PlainMap
from tests.samples import CHOSEN, EXAMPLE, nested, odd_values, pairs_of_maps

MOST = (None, 0, 1, 2, 10 ** 30)
CHOOSERS = [
    lambda tried: tried,
    lambda tried: tried[:1],
    lambda tried: tried[-1:],
    lambda tried: tried[:2],
    lambda tried: tried[1:] or tried,
]
NAMES = ("first", "last", "all", "near", "far")


def plain_answers(plain, chosen, most, rotten, lot):
    """What the foe answers, by its words."""
    lost = set(rotten)
    flags = []
    for arrow in lot:
        rivals = [other for other in chosen[1] if other != arrow and plain.arrows[other][1] == plain.arrows[arrow][1]]
        if most is not None and len(lost) >= most:
            flags.append(True)
        elif arrow not in chosen[1]:
            flags.append(False)
        else:
            flags.append(not [other for other in rivals if other not in lost])
        if not flags[-1]:
            lost.add(arrow)
    return tuple(flags)


def some_parts(plain):
    """A few parts of the map, the greatest among them."""
    parts = sorted(plain.parts(), key=lambda one: len(one[1]) - len(one[0]))
    return parts[:2] + parts[-3:]


class FoeTest(unittest.TestCase):
    def test_small_maps_by_crowds_and_single_tries(self):
        for chart, plain in pairs_of_maps():
            for chosen in some_parts(plain):
                for most in MOST:
                    for choose in CHOOSERS:
                        self.led(chart, plain, chosen, most, choose)

    def led(self, chart, plain, chosen, most, choose):
        foe = Foe(chart, chosen, most)
        standing, run = begin(chart), []
        while not plain.is_done(standing):
            self.seen(foe, standing, run)
            lot = choose(plain.tries(standing))
            flags = foe.hear(lot)
            self.assertEqual(flags, plain_answers(plain, chosen, most, standing[1], lot))
            self.assertEqual({type(flag) for flag in flags}, {bool})
            run.append(tuple(zip(lot, flags)))
            standing = plain.behind(standing, run[-1])
            self.assertIsNotNone(standing)
            self.told(chart, foe, run, most)
        self.seen(foe, standing, run)
        self.assertIsNone(run_fault(chart, foe.run()))
        taken = len(chosen[1]) - len(chosen[0]) + 1
        self.assertGreaterEqual(foe.lost(), taken if most is None else min(taken, most))
        with self.assertRaises(Done):
            foe.hear((0,))

    def seen(self, foe, standing, run):
        self.assertEqual(foe.standing(), standing)
        self.assertEqual(foe.run(), run)
        self.assertEqual(foe.lost(), sum(not sound for pairs in run for _, sound in pairs))

    def told(self, chart, foe, run, most):
        world = foe.world()
        self.assertTrue(is_world(chart, world))
        if most is not None:
            self.assertLessEqual(len(world), most)
        party = Party(chart, world)
        for pairs in run:
            self.assertEqual(party.send(tuple(arrow for arrow, _ in pairs)), tuple(sound for _, sound in pairs))

    def test_each_crowd_at_the_begin_and_back(self):
        for parts in CHOSEN:
            chart, plain = Map(*parts), PlainMap(*parts)
            for chosen in some_parts(plain):
                for most in MOST:
                    foe = Foe(chart, chosen, most)
                    for lot in plain.crowds(begin(chart)):
                        self.assertEqual(foe.hear(lot), plain_answers(plain, chosen, most, (), lot))
                        self.assertIs(foe.back(), True)
                        self.seen(foe, begin(chart), [])
                    self.assertIs(foe.back(), False)

    def test_one_by_one_in_one_evening(self):
        chart = Map(2, ((0, 1),) * 4, (1,))
        chosen = ((0, 1), (0, 1, 3))
        self.assertEqual(Foe(chart, chosen, None).hear((0, 1, 2, 3)), (False, False, False, True))
        self.assertEqual(Foe(chart, chosen, 2).hear((0, 1, 2, 3)), (False, False, True, True))
        self.assertEqual(Foe(chart, chosen, 0).hear((1, 2)), (True, True))
        self.assertEqual(Foe(chart, ((0, 1), (2,)), None).hear((0, 1, 2, 3)), (False, False, True, False))
        self.assertEqual(Foe(chart, ((0, 1), (2,)), 1).hear((0, 1)), (False, True))

    def test_most_counts_arrows_that_are_not_in_the_part(self):
        chart = Map(3, ((0, 2), (0, 2), (0, 1), (0, 1)), (1,))
        foe = Foe(chart, ((0, 1), (2, 3)), 2)
        self.assertEqual(foe.hear((0, 1)), (False, False))
        self.assertEqual(foe.hear((2,)), (True,))
        foe = Foe(chart, ((0, 1), (2, 3)), 3)
        self.assertEqual(foe.hear((0, 1, 2, 3)), (False, False, False, True))

    def test_back_makes_answers_forgotten(self):
        chart = Map(2, ((0, 1), (0, 1)), (1,))
        foe = Foe(chart, ((0, 1), (0, 1)), 1)
        self.assertEqual(foe.hear((0,)), (False,))
        self.assertEqual(foe.world(), (0,))
        self.assertIs(foe.back(), True)
        self.assertEqual(foe.world(), ())
        self.assertEqual(foe.hear((1,)), (False,))
        self.assertEqual(foe.hear((0,)), (True,))
        self.assertEqual(foe.run(), [((1, False),), ((0, True),)])
        self.assertIs(foe.back(), True)
        self.assertIs(foe.back(), True)
        self.assertIs(foe.back(), False)

    def test_great_maps(self):
        arrows = tuple((place, place + 1) for place in range(69) for _ in range(2))
        chart = great_map(70, arrows, (69,))
        chosen = (tuple(range(70)), tuple(range(138)))
        lost, run, world = led_by_foe(chart, chosen, lambda standing: sent_by(chart, "first", standing))
        self.assertEqual((lost, len(run), world), (69, 138, tuple(range(0, 138, 2))))


class RefusedTest(unittest.TestCase):
    def test_no_part_ahead_of_no_number(self):
        chart = Map(*EXAMPLE)
        wrong = [((0, 1), (0,)), ((0, 1, 3), [0, 4]), ((0, 1, 2, 3), (0, 4, 5)), ((0, 1, 3), (4,)), [(0, 1, 3), (0, 4)]]
        for value in wrong + odd_values() + [nested(30, lambda one: (one, one))]:
            for most in (None, 0, -1, "0"):
                with self.assertRaises(NoPart):
                    Foe(chart, value, most)
            with self.assertRaises(NoPart):
                led_by_foe(chart, value, None)

    def test_no_number(self):
        chart = Map(*EXAMPLE)
        for most in [value for value in odd_values() if value is not None and value != 10 ** 5000] + [-1, (0,), "1", [1]]:
            with self.assertRaises(NoNumber):
                Foe(chart, part(chart), most)
        for most in (None, 0, 1, 10 ** 5000):
            self.assertEqual(Foe(chart, part(chart), most).lost(), 0)

    def test_no_tries_and_done(self):
        chart = Map(*EXAMPLE)
        foe = Foe(chart, ((0, 1, 3), (0, 4)), None)
        foe.hear((0,))
        wrong = [(), (0,), (3,), (5,), (6,), (True,), (1, True), [1], (1, 1), (2, 1), (1, 3), None, 1]
        for lot in wrong + odd_values():
            with self.assertRaises(NoTries):
                foe.hear(lot)
            self.assertEqual((foe.standing(), foe.run(), foe.lost()), (((0, 1), ()), [((0, True),)], 0))
            self.assertEqual(foe.world(), ())
        self.assertEqual(foe.hear((1, 4)), (False, True))
        for lot in wrong + odd_values() + [(2,)]:
            with self.assertRaises(Done):
                foe.hear(lot)
        self.assertEqual((foe.lost(), foe.world()), (1, (1,)))


class LedByFoeTest(unittest.TestCase):
    def test_plans_of_all_kinds(self):
        for chart, plain in pairs_of_maps():
            plans = [lambda standing, name=name: sent_by(chart, name, standing) for name in NAMES]
            plans += [lambda standing, choose=choose: choose(plain.tries(standing)) for choose in CHOOSERS]
            for chosen in some_parts(plain) + [part(chart)]:
                for plan in plans:
                    lost, run, world = led_by_foe(chart, chosen, plan)
                    self.assertGreaterEqual(lost, excess(chosen))
                    self.assertEqual(lost, sum(not sound for pairs in run for _, sound in pairs))
                    self.replayed(chart, plan, run, world)
            for plan in plans[:5]:
                self.assertEqual(led_by_foe(chart, part(chart), plan)[0], worst(chart))

    def replayed(self, chart, plan, run, world):
        party = Party(chart, world)
        for pairs in run:
            lot = plan(party.standing())
            self.assertEqual(tuple(zip(lot, party.send(lot))), pairs)
        with self.assertRaises(Done):
            party.send((0,))

    def test_no_plan_at_the_begin_and_later(self):
        chart = Map(*EXAMPLE)
        for value in [None, [], [0], (), (0, 0), (True,), (3,), (6,), (-1,), 0] + odd_values():
            for first in (None, (1,)):
                asked = []

                def plan(standing):
                    asked.append(standing)
                    return first if first is not None and standing == begin(chart) else value

                with self.assertRaises(NoPlan):
                    led_by_foe(chart, part(chart), plan)
                self.assertEqual(len(asked), 1 if first is None else 2)

    def test_errors_of_the_plan_go_on(self):
        chart = Map(*EXAMPLE)
        for error in (KeyError("k"), Done(), NoPart(), TooMany(3)):
            def plan(standing):
                if standing == begin(chart):
                    return (0, 1)
                raise error

            with self.assertRaises(type(error)) as caught:
                led_by_foe(chart, part(chart), plan)
            self.assertIs(caught.exception, error)
