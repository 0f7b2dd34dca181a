"""Promises [15] and [16]: news that come late, and few rotten arrows."""

import unittest

from untriedways.errors import Done, NoNumber, NoPlan, NoWorld, TooMany
from untriedways.foes import Foe
from untriedways.latenews import late_walk, worst_among
from untriedways.maps import Map, great_map
from untriedways.parts import part, worst
from untriedways.plans import sent_by, walk
from untriedways.standings import begin, tries, worth
from tests.plain import PlainMap
from tests.samples import CHOSEN, EXAMPLE, odd_values, pairs_of_maps


def plain_late(plain, world, plan, late):
    """What late_walk returns, and what the plan is asked."""
    run, asked = [], []
    while True:
        standing = ((0,), ())
        for pairs in run[:max(0, len(run) - late)]:
            standing = plain.behind(standing, pairs)
        if plain.is_done(standing):
            return (sum(not sound for pairs in run for _, sound in pairs), len(run), run), asked
        sent = tuple(sorted(arrow for pairs in run for arrow, _ in pairs))
        asked.append((standing, sent))
        run.append(tuple((arrow, arrow not in world) for arrow in plan(standing, sent)))


def plans_of(plain):
    """Plans of several kinds: eager ones, waiting ones, and some that are not sensible."""
    def open_tries(standing, sent):
        return tuple(arrow for arrow in plain.tries(standing) if arrow not in sent)

    def open_worth(standing, sent):
        return tuple(arrow for arrow in plain.worth(standing) if arrow not in sent)

    def under_way(standing, sent):
        heads = [plain.arrows[arrow][1] for arrow in sent]
        return [arrow for arrow, head in zip(sent, heads) if arrow not in standing[1] and head not in standing[0]]

    return [
        open_tries,
        lambda standing, sent: open_tries(standing, sent)[:1],
        open_worth,
        lambda standing, sent: open_worth(standing, sent)[-1:],
        # Waits for each answer, perhaps one that is not told any more as the head is reached.
        lambda standing, sent: () if under_way(standing, sent) else open_worth(standing, sent)[:1],
        lambda standing, sent: () if under_way(standing, sent) else open_tries(standing, sent)[:2],
    ]


class LateWalkTest(unittest.TestCase):
    def test_all_worlds_with_all_latenesses(self):
        for chart, plain in pairs_of_maps():
            for world in plain.worlds:
                for late in range(6):
                    for number, plan in enumerate(plans_of(plain)):
                        self.one(chart, plain, world, late, plan, 2 <= number <= 4)

    def one(self, chart, plain, world, late, plan, sensible):
        right, stood = plain_late(plain, world, plan, late)
        asked = []

        def noted(standing, sent):
            asked.append((standing, sent))
            return plan(standing, sent)

        told = late_walk(chart, world, noted, late)
        self.assertEqual(told, right)
        self.assertEqual(asked, stood)
        self.assertEqual(len(asked), told[1])
        if late == 0:
            lost, run = walk(chart, world, lambda standing: plan(standing, ()))
            self.assertEqual(told, (lost, len(run), run))
        if sensible:
            self.assertLessEqual(told[0], worst(chart))

    def test_by_hand(self):
        chart = Map(2, ((0, 1),) * 4, (1,))
        asked = []

        def plan(standing, sent):
            asked.append((standing, sent))
            return tuple(arrow for arrow in tries(chart, standing) if arrow not in sent)[:1]

        run = [((0, False),), ((1, False),), ((2, True),), ((3, False),), ()]
        self.assertEqual(late_walk(chart, (0, 1, 3), plan, 2), (3, 5, run))
        here, two, three = ((0,), ()), ((0,), (0,)), ((0,), (0, 1))
        right = [(here, ()), (here, (0,)), (here, (0, 1)), (two, (0, 1, 2)), (three, (0, 1, 2, 3))]
        self.assertEqual(asked, right)

    def test_lost_are_those_too_whose_answers_come_behind_the_end(self):
        chart = Map(2, ((0, 1),) * 3, (1,))
        plan = lambda standing, sent: (len(sent),) if len(sent) < 3 else ()
        self.assertEqual(late_walk(chart, (1, 2), plan, 2), (2, 3, [((0, True),), ((1, False),), ((2, False),)]))
        self.assertEqual(late_walk(chart, (1, 2), plan, 1), (1, 2, [((0, True),), ((1, False),)]))
        self.assertEqual(late_walk(chart, (), plan, 5)[1:], (6, [((k, True),) for k in range(3)] + [()] * 3))

    def test_empty_evenings(self):
        chart = Map(3, ((0, 1), (1, 2)), (2,))
        wait = lambda standing, sent: tuple(arrow for arrow in worth(chart, standing) if arrow not in sent)
        told = late_walk(chart, (), wait, 5)
        self.assertEqual(told, (0, 12, [((0, True),)] + [()] * 5 + [((1, True),)] + [()] * 5))
        self.assertIs(type(told[2]), list)

    def test_great_maps(self):
        arrows = tuple((place, place + 1) for place in range(80))
        chart = great_map(81, arrows, (80,))
        plan = lambda standing, sent: tuple(arrow for arrow in worth(chart, standing) if arrow not in sent)
        self.assertEqual(late_walk(chart, (), plan, 1)[:2], (0, 160))


class NoPlanTest(unittest.TestCase):
    WRONG = [None, [], [1], (1, 1), (True,), (2, 1), (3,), (6,), (-1,), 0, "1", {1: 1}, ((1,),), (1, None), [()]]

    def test_at_the_begin(self):
        chart = Map(*EXAMPLE)
        for late in range(6):
            for value in self.WRONG + odd_values() + [()]:
                with self.assertRaises(NoPlan):
                    late_walk(chart, (), lambda standing, sent: value, late)

    def test_later(self):
        chart = Map(*EXAMPLE)
        for late in range(1, 6):
            for value in self.WRONG + odd_values() + [(0,), (0, 1), (4,)]:
                asked = []

                def plan(standing, sent):
                    asked.append((standing, sent))
                    return value if sent else (0,)

                with self.assertRaises(NoPlan):
                    late_walk(chart, (), plan, late)
                self.assertEqual(asked, [(begin(chart), ()), (begin(chart), (0,))])

    def test_what_was_sent_is_not_sent_again(self):
        chart = Map(2, ((0, 1),) * 3, (1,))
        with self.assertRaises(NoPlan):
            late_walk(chart, (0,), lambda standing, sent: (0,), 0)
        with self.assertRaises(NoPlan):
            late_walk(chart, (0, 1), lambda standing, sent: (len(sent) & 1,), 1)

    def test_an_empty_one_behind_the_last_answer_to_come(self):
        chart = Map(2, ((0, 1),) * 3, (1,))
        for late in range(6):
            asked = []

            def plan(standing, sent):
                asked.append((standing, sent))
                return () if sent else (0,)

            with self.assertRaises(NoPlan):
                late_walk(chart, (0,), plan, late)
            # So many empty ones are let, while the answer comes; then one knows of it, and none is.
            waits = [(((0,), ()), (0,))] * late
            self.assertEqual(asked, [(((0,), ()), ())] + waits + [(((0,), (0,)), (0,))])

    def test_an_empty_evening_brings_no_answers(self):
        chart = Map(2, ((0, 1),) * 3, (1,))
        # At the begin of the sixth evening only empty ones are not heard.
        sends = iter([(0,), (), (1,), (), (), (), ()])
        with self.assertRaises(NoPlan):
            late_walk(chart, (0, 1), lambda standing, sent: next(sends), 2)
        self.assertEqual(list(sends), [()])

    def test_errors_of_the_plan_go_on(self):
        chart = Map(*EXAMPLE)
        for error in (KeyError("k"), NoPlan(), Done(), NoWorld(), TooMany(1)):
            def plan(standing, sent):
                if not sent:
                    return (0, 1)
                raise error

            for late in (0, 3):
                with self.assertRaises(type(error)) as caught:
                    late_walk(chart, (), plan, late)
                self.assertIs(caught.exception, error)

    def test_no_world_then_no_number_ahead_of_the_plan(self):
        chart = Map(*EXAMPLE)
        asked = []
        plan = lambda standing, sent: asked.append(sent)
        for world in odd_values() + [(0, 1), (6,), [0], (True,)]:
            for late in (0, 6, None):
                with self.assertRaises(NoWorld):
                    late_walk(chart, world, plan, late)
        for late in odd_values() + [6, -1, (0,), "0", [1]]:
            with self.assertRaises(NoNumber):
                late_walk(chart, (0,), plan, late)
        self.assertEqual(asked, [])


class WorstAmongTest(unittest.TestCase):
    def test_the_lesser_one(self):
        for chart, _ in pairs_of_maps():
            right = worst(chart)
            for most in (0, 1, 2, right, right + 1, 10 ** 30):
                self.assertEqual(worst_among(chart, most), min(most, right))

    def test_the_foe_and_all_worlds(self):
        for parts in CHOSEN:
            chart, plain = Map(*parts), PlainMap(*parts)
            for most in (0, 1, 2, 9):
                worlds = [world for world in plain.worlds if len(world) <= most]
                for name in ("first", "last", "all", "near", "far"):
                    plan = lambda standing: sent_by(chart, name, standing)
                    lost = max(walk(chart, world, plan)[0] for world in worlds)
                    self.assertEqual(lost, worst_among(chart, most))
                    self.assertGreaterEqual(self.taken(chart, plan, most), worst_among(chart, most))

    def taken(self, chart, plan, most):
        foe = Foe(chart, part(chart), most)
        while plan(foe.standing()):
            foe.hear(plan(foe.standing()))
        return foe.lost()

    def test_no_number_ahead_of_too_many(self):
        line = Map(10, tuple((place, place + 1) for place in range(9)), (9,))
        for chart in (Map(*EXAMPLE), line):
            for most in [value for value in odd_values() if value != 10 ** 5000] + [-1, (1,), "1"]:
                with self.assertRaises(NoNumber):
                    worst_among(chart, most)
        for most in (0, 1, 10 ** 5000):
            with self.assertRaises(TooMany) as caught:
                worst_among(line, most)
            self.assertEqual(caught.exception.most, 9)
