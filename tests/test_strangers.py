"""Promise [23]: what strangers' plans do wrong and what they lose, against leading them in all worlds."""

import random
import unittest
from unittest import mock

from untriedways import strangers
from untriedways.errors import NoNumber, NoPlan, TooMany
from untriedways.maps import Map, great_map
from untriedways.parts import part, worst
from untriedways.plans import sent_by
from untriedways.runs import run_fault
from untriedways.standings import tries, worth
from untriedways.strangers import (
    judged,
    most_evenings,
    most_lost,
    refuted,
    spread,
    weighed_up,
    worst_worlds,
)
from tests.plain import PlainMap
from tests.samples import CHOSEN, EXAMPLE, odd_values, pairs_of_maps
from tests.test_parts import random_maps
from tests.test_plans import WRONG, plain_walk

ALL_CALLS = [
    judged,
    lambda chart, plan: refuted(chart, 1, plan),
    most_lost,
    most_evenings,
    spread,
    lambda chart, plan: weighed_up(chart, plan, plan),
    worst_worlds,
]
# Nine places count; and ten do.
NINE = Map(9, tuple((place, place + 1) for place in range(8)), (8,))
TEN = Map(10, tuple((place, place + 1) for place in range(9)), (9,))
PAIR = Map(2, ((0, 1), (0, 1)), (1,))


class OwnError(Exception):
    """An error of a plan."""


def some_plan(plain, seed, sensible):
    """A plan that sends any lot of one or more tries, always the same for the same standing."""
    def plan(standing):
        dice = random.Random(str((seed, standing)))
        tried = plain.worth(standing) if sensible else plain.tries(standing)
        return tuple(sorted(dice.sample(tried, dice.randint(1, len(tried)))))

    return plan


def plans_for(plain):
    yield plain.tries
    yield plain.worth
    yield lambda standing: plain.tries(standing)[:1]
    yield lambda standing: plain.tries(standing)[-1:]
    yield lambda standing: plain.worth(standing)[-1:]
    for seed in range(4):
        yield some_plan(plain, seed, seed % 2 == 0)


def some_maps():
    maps = pairs_of_maps()[::3] + [(Map(*parts), PlainMap(*parts)) for parts in CHOSEN]
    for many, size in ((4, 6), (5, 8)):
        maps.extend((Map(*parts), PlainMap(*parts)) for parts in random_maps(many, size, 8, size))
    return maps


def plain_evenings(plain, plan):
    """The standings that are come to first behind 0, 1, 2 .. evenings, in order."""
    seen = {((0,), ())}
    layer = sorted(seen)
    while layer:
        yield layer
        fresh = set()
        for standing in layer:
            if not plain.is_done(standing):
                fresh.update(behind for _, behind in plain.possible(standing, plan(standing)))
        layer = sorted(fresh - seen)
        seen |= fresh


def plain_judged(plain, plan):
    for layer in plain_evenings(plain, plan):
        for standing in layer:
            if not plain.is_done(standing):
                wrong = set(plan(standing)) - set(plain.worth(standing))
                if wrong:
                    return (standing, min(wrong))
    return None


def plain_limited(plain, plan, most, strict):
    """What a limit of so many standings makes of it: a name of an error, or what is found, or None."""
    count = 0
    seen = {((0,), ())}
    layer = sorted(seen)
    while layer:
        count += len(layer)
        found, fresh = None, set()
        for standing in layer:
            if plain.is_done(standing):
                continue
            lot = plan(standing)
            if not lot or not set(lot) <= set(plain.tries(standing)):
                return "NoPlan"
            wrong = set(lot) - set(plain.worth(standing))
            if strict and wrong:
                found = (standing, min(wrong))
                break
            fresh.update(behind for _, behind in plain.possible(standing, lot))
        if count > most:
            return "TooMany"
        if found:
            return found
        layer = sorted(fresh - seen)
        seen |= fresh
    return None


def bundle(many):
    return great_map(2, ((0, 1),) * many, (1,))


def two_bundles(one, other):
    return great_map(3, ((0, 1),) * one + ((1, 2),) * other, (2,))


class AgreementTest(unittest.TestCase):
    def test_in_all_worlds(self):
        for chart, plain in some_maps():
            for plan in plans_for(plain):
                self.one(chart, plain, plan)

    def one(self, chart, plain, plan):
        led = {world: plain_walk(plain, world, plan)[0] for world in plain.worlds}
        lost = [led[world][0] for world in plain.worlds]
        self.assertEqual(judged(chart, plan), plain_judged(plain, plan))
        self.assertEqual(most_lost(chart, plan), max(lost))
        self.assertEqual(most_evenings(chart, plan), max(len(run) for _, run in led.values()))
        told = spread(chart, plan)
        self.assertEqual(told, [lost.count(lives) for lives in range(max(lost) + 1)])
        self.assertIs(type(told), list)
        self.assertEqual(worst_worlds(chart, plan), sorted(world for world in led if led[world][0] == max(lost)))
        self.foiled(chart, plain, plan, max(lost))

    def foiled(self, chart, plain, plan, most):
        self.assertGreaterEqual(most, worst(chart))
        for lives in range(1, worst(chart) + 1):
            run, world = refuted(chart, lives, plan)
            self.assertEqual((plain_walk(plain, world, plan)[0]), (sum(
                not sound for pairs in run for _, sound in pairs
            ), run))
            self.assertIn(world, plain.worlds)
            self.assertIsNone(run_fault(chart, run))
            lost = plain_walk(plain, world, plan)[0][0]
            self.assertGreaterEqual(lost, lives)
        told = refuted(chart, most + 1, plan)
        self.assertIsNone(told)
        if plain_judged(plain, plan) is None:
            self.assertIsNone(refuted(chart, worst(chart) + 1, plan))
            self.assertEqual(most, worst(chart))

    def test_two_plans(self):
        for chart, plain in some_maps()[::2]:
            plans = list(plans_for(plain))
            for one, other in zip(plans, plans[1:] + plans[:1]):
                both = [
                    (plain_walk(plain, world, one)[0][0], plain_walk(plain, world, other)[0][0]) for world in plain.worlds
                ]
                right = (sum(a < b for a, b in both), sum(a == b for a, b in both), sum(a > b for a, b in both))
                self.assertEqual(weighed_up(chart, one, other), right)
                self.assertEqual(weighed_up(chart, other, one), right[::-1])

    def test_named_plans_of_the_example(self):
        chart = Map(*EXAMPLE)

        def named(name):
            return lambda standing: sent_by(chart, name, standing)

        for name in ("first", "last", "all", "near", "far"):
            self.assertIsNone(judged(chart, named(name)))
            self.assertEqual(most_lost(chart, named(name)), 2)
            self.assertIsNone(refuted(chart, 3, named(name)))
        self.assertEqual(spread(chart, named("first")), [8, 12, 12])
        self.assertEqual(sum(spread(chart, named("all"))), 32)
        self.assertEqual(most_evenings(chart, named("all")), 3)
        self.assertEqual(weighed_up(chart, named("near"), named("near")), (0, 32, 0))

    def test_a_standing_is_judged_by_its_fewest_evenings_then_in_order(self):
        # Place 3 is dead; all plans that try arrow 2 ever are not sensible.
        chart = Map(4, ((0, 1), (0, 1), (0, 3), (1, 2), (1, 2)), (2,))

        def late(standing):
            return (2,) if 3 not in standing[0] and 2 not in standing[1] and 0 in standing[1] else worth(chart, standing)[:1]

        self.assertEqual(judged(chart, late), (((0,), (0,)), 2))
        self.assertEqual(judged(chart, lambda standing: tries(chart, standing)), (((0,), ()), 2))

        def later(standing):
            if standing in ((((0, 1), (0,))), ((0, 1), (3,))):
                return (2, *worth(chart, standing))
            return worth(chart, standing)[:1]

        self.assertEqual(judged(chart, later), (((0, 1), (0,)), 2))

    def test_it_is_asked_for_nothing_behind_what_is_wrong(self):
        chart = Map(*EXAMPLE)
        asked = []

        def plan(standing):
            asked.append(standing)
            return worth(chart, standing)

        self.assertIsNone(judged(chart, plan))
        self.assertEqual(len(asked), len(set(asked)))
        dead = Map(3, ((0, 1), (0, 2)), (1,))
        asked.clear()

        def bad(standing):
            asked.append(standing)
            return tries(dead, standing)

        self.assertEqual(judged(dead, bad), (((0,), ()), 1))
        self.assertEqual(asked, [((0,), ())])


class NoPlanTest(unittest.TestCase):
    def test_wrong_at_the_begin(self):
        chart = Map(*EXAMPLE)
        for wrong in WRONG + odd_values():
            for call in ALL_CALLS:
                with self.assertRaises(NoPlan):
                    call(chart, lambda standing: wrong)

    def test_wrong_later(self):
        chart, plain = Map(*EXAMPLE), PlainMap(*EXAMPLE)
        # All come to this standing, but the foe of the part does not lead there.
        for wrong in [None, (), (0, 3), [1]]:
            def plan(standing):
                return wrong if standing == ((0,), (0,)) else plain.worth(standing)[:1]

            self.assertIsNotNone(refuted(chart, 1, plan))
            for call in [call for call in ALL_CALLS if call != ALL_CALLS[1]]:
                with self.assertRaises(NoPlan):
                    call(chart, plan)

    def test_the_second_plan_alone_is_wrong(self):
        chart = Map(*EXAMPLE)
        right = lambda standing: worth(chart, standing)
        for wrong in ((), None, (5,)):
            for told in ((right, lambda standing: wrong), (lambda standing: wrong, right)):
                with self.assertRaises(NoPlan):
                    weighed_up(chart, *told)

    def test_ahead_of_what_is_not_sensible_and_behind_it(self):
        # Behind two evenings one comes to ((0, 1), (0,)), then to ((0, 1), (0, 2)) and the like.
        chart = Map(4, ((0, 1), (0, 1), (0, 3), (1, 2), (1, 2)), (2,))
        ahead, behind = ((0,), (0,)), ((0, 1), ())

        def plan(wrong, bad):
            def sent(standing):
                if standing == wrong:
                    return ()
                return (2,) if standing == bad else worth(chart, standing)[:1]

            return sent

        self.assertEqual(judged(chart, plan(behind, ahead)), (ahead, 2))
        with self.assertRaises(NoPlan):
            judged(chart, plan(ahead, behind))
        # On a later evening, though lesser in order.
        self.assertEqual(judged(chart, plan(((0,), (0, 2)), ahead)), (ahead, 2))
        with self.assertRaises(NoPlan):
            most_lost(chart, plan(behind, ahead))

    def test_errors_of_its_own(self):
        chart = Map(*EXAMPLE)
        for error in (OwnError, KeyError, ValueError, RecursionError, StopIteration, NoNumber, TooMany):
            def plan(standing):
                if len(standing[0]) + len(standing[1]) > 1:
                    raise error("own")
                return worth(chart, standing)[:1]

            for call in ALL_CALLS:
                with self.assertRaises(error):
                    call(chart, plan)


class LimitTest(unittest.TestCase):
    def too_many(self, most, call, *told):
        with self.assertRaises(TooMany) as caught:
            call(*told)
        self.assertEqual(caught.exception.most, most)

    def single(self, chart):
        return lambda standing: worth(chart, standing)[:1]

    def test_2000_standings_and_2001(self):
        # Each of `one` standings ahead of place 1, and as many behind it, from each on twice `other`.
        for one, other, count in ((16, 62, 2000), (3, 333, 2001), (2, 499, 1998), (4, 250, 2004)):
            chart = two_bundles(one, other)
            self.assertEqual(one * (1 + 2 * other), count)
            for call in (judged, most_lost, most_evenings):
                if count > 2000:
                    self.too_many(2000, call, chart, self.single(chart))
                elif call == judged:
                    self.assertIsNone(judged(chart, self.single(chart)))
                else:
                    right = one + other - (2 if call == most_lost else 0)
                    self.assertEqual(call(chart, self.single(chart)), right)

    def test_done_ones_and_all_of_the_evening_count(self):
        # All at once: 2 ** many standings, all but the begin of them done.
        for many, right in ((10, 1024), (11, None), (60, None), (400, None)):
            chart = bundle(many)
            for call in (judged, most_lost, most_evenings):
                if right:
                    call(chart, lambda standing: worth(chart, standing))
                else:
                    self.too_many(2000, call, chart, lambda standing: worth(chart, standing))

    def test_what_is_not_sensible_beyond_2000(self):
        # The first evening brings 2 ** 10 or 2 ** 11 standings, most with place 1, where arrow `dead` may be tried.
        for many in (10, 11):
            chart = great_map(4, ((0, 1),) * many + ((1, 2), (1, 3)), (2,))
            dead = many + 1

            def plan(standing):
                return (dead,) if 1 in standing[0] and dead not in standing[1] and 3 not in standing[0] else worth(chart, standing)

            if many == 10:
                self.assertEqual(judged(chart, plan), (((0, 1), ()), dead))
            else:
                self.too_many(2000, judged, chart, plan)
            self.too_many(2000, most_lost, chart, plan)

    def test_lesser_limits_against_a_plain_search(self):
        # The same with other numbers in the place of 2000, for plans of all kinds, wrong ones too.
        kinds = set()
        for at, (chart, plain) in enumerate(some_maps()):
            for seed in range(3):
                right = some_plan(plain, seed, seed == 0)
                dice = random.Random(str((at, seed)))
                wrong = dice.sample(plain.standings(), dice.randint(0, 2))
                plan = lambda standing: () if standing in wrong else right(standing)
                for most in (1, 2, 3, 5, 8, 13, 2000):
                    with mock.patch.object(strangers, "MOST_STANDINGS", most):
                        for call in (judged, most_lost, most_evenings):
                            told = plain_limited(plain, plan, most, call == judged)
                            kinds.add(told if isinstance(told, str) else type(told))
                            self.limited(chart, plan, call, told)
        self.assertEqual(kinds, {"NoPlan", "TooMany", tuple, type(None)})

    def limited(self, chart, plan, call, told):
        if isinstance(told, str):
            with self.assertRaises({"NoPlan": NoPlan, "TooMany": TooMany}[told]):
                call(chart, plan)
        elif call == judged:
            self.assertEqual(judged(chart, plan), told)
        else:
            self.assertIsInstance(call(chart, plan), int)

    def test_not_sensible_at_the_begin(self):
        chart = great_map(3, ((0, 1),) * 60 + ((0, 2),), (1,))
        self.assertEqual(judged(chart, lambda standing: tries(chart, standing)), (((0,), ()), 60))
        self.too_many(2000, most_lost, chart, lambda standing: tries(chart, standing))

    def test_a_wrong_plan_in_the_evening_that_is_too_many(self):
        for many in (11, 12, 13):
            chart = great_map(3, ((0, 1),) * many + ((1, 2),), (2,))
            last = ((0, 1), tuple(range(1, many)))
            first = ((0, 1), ())

            def plan(wrong):
                return lambda standing: "wrong" if standing == wrong else worth(chart, standing)

            for call in (judged, most_lost, most_evenings):
                for wrong in (first, last):
                    with self.assertRaises(NoPlan):
                        call(chart, plan(wrong))
                self.too_many(2000, call, chart, plan(None))

    def test_a_wrong_plan_an_evening_later(self):
        chart = great_map(4, ((0, 1),) * 11 + ((1, 2), (2, 3)), (3,))
        plan = lambda standing: None if 2 in standing[0] else worth(chart, standing)[:11]
        for call in (judged, most_lost, most_evenings):
            self.too_many(2000, call, chart, plan)
        # One arrow less, and it is asked there.
        chart = great_map(4, ((0, 1),) * 10 + ((1, 2), (2, 3)), (3,))
        for call in (judged, most_lost, most_evenings):
            with self.assertRaises(NoPlan):
                call(chart, plan)

    def test_wrong_ahead_of_not_sensible_and_behind_it_beyond_2000(self):
        chart = great_map(4, ((0, 1),) * 11 + ((1, 2), (1, 3)), (2,))
        low, high = ((0, 1), (3,)), ((0, 1), (4, 5))

        def plan(wrong, bad):
            return lambda standing: () if standing == wrong else (12,) if standing == bad else worth(chart, standing)

        with self.assertRaises(NoPlan):
            judged(chart, plan(low, high))
        self.too_many(2000, judged, chart, plan(high, low))
        with self.assertRaises(NoPlan):
            most_lost(chart, plan(high, low))

    def test_all_of_a_great_evening_are_asked(self):
        # Behind the first evening 2 ** 17 - 1 standings, none of them done.
        chart = great_map(3, ((0, 1),) * 17 + ((1, 2),), (2,))
        last = ((0, 1), (16,))
        for call in (judged, most_lost, most_evenings):
            asked = []

            def plan(standing):
                asked.append(standing)
                return () if standing == last else tuple(range(17)) if standing == ((0,), ()) else (17,)

            with self.assertRaises(NoPlan):
                call(chart, plan)
            self.assertEqual(asked[-1], last)
            self.assertEqual(len(asked), 2 ** 17)
            self.assertEqual(asked, sorted(set(asked)))
        self.too_many(2000, most_lost, chart, lambda standing: tuple(range(17)) if standing == ((0,), ()) else (17,))

    def test_wrong_in_the_third_evening(self):
        # Two standings behind the first evening, one with a great lot; it is wrong behind either one.
        for places in (14, 18):
            chart = Map(places, ((0, 1), (0, 1)) + tuple((0, place) for place in range(2, places)), (1,))
            given = {((0,), ()): (2,), ((0, 2), ()): tuple(range(3, places)), ((0,), (2,)): (3,)}
            late = ((0, 2, places - 1), tuple(range(3, places - 1)))
            for wrong in (((0, 3), (2,)), ((0,), (2, 3)), late, None):
                plan = lambda standing: () if standing == wrong else given.get(standing, (0,))
                for call in (most_lost, most_evenings):
                    if wrong:
                        with self.assertRaises(NoPlan):
                            call(chart, plan)
                    else:
                        self.too_many(2000, call, chart, plan)

    def test_who_is_asked_in_an_evening_that_is_too_many(self):
        kinds = set()
        for at, (chart, plain) in enumerate(some_maps()):
            for seed in range(3):
                right = some_plan(plain, (at, seed), seed == 0)
                for most in (1, 2, 4, 8):
                    for call in (judged, most_lost, most_evenings):
                        told, names = self.asked_by(call, chart, right, most)
                        kinds.add(told)
                        self.assertEqual(names, self.due(plain, right, most, call == judged))
        self.assertEqual(kinds, {"TooMany", "other"})

    def asked_by(self, call, chart, right, most):
        """What comes of it, and at which standings the plan was asked, in turn."""
        asked = []

        def plan(standing):
            asked.append(standing)
            return right(standing)

        with mock.patch.object(strangers, "MOST_STANDINGS", most):
            try:
                call(chart, plan)
            except TooMany:
                return ("TooMany", asked)
        return ("other", asked)

    def due(self, plain, plan, most, strict):
        """All new standings that are not done, up to the end of the evening that is too many."""
        count, asked = 0, []
        for layer in plain_evenings(plain, plan):
            count += len(layer)
            for standing in layer:
                if not plain.is_done(standing):
                    asked.append(standing)
                    if strict and not set(plan(standing)) <= set(plain.worth(standing)):
                        return asked
            if count > most:
                return asked
        return asked

    def test_very_many_at_once(self):
        # 2 ** 60 - 1 standings behind the first evening, none of them done: the first one is asked about.
        chart = great_map(3, ((0, 1),) * 60 + ((1, 2),), (2,))
        for wrong in (((0, 1), ()), ((0, 1), (0, 1, 2)), ((0, 1), tuple(range(50)))):
            for call in (judged, most_lost, most_evenings):
                with self.assertRaises(NoPlan):
                    call(chart, lambda standing: None if standing == wrong else worth(chart, standing))
        # Not sensible at the first one: what may be wrong behind it does not count.
        chart = great_map(4, ((0, 1),) * 60 + ((1, 2), (1, 3)), (2,))
        plan = lambda standing: (61,) if standing == ((0, 1), ()) else worth(chart, standing) if 1 not in standing[0] else ()
        self.too_many(2000, judged, chart, plan)
        with self.assertRaises(NoPlan):
            most_lost(chart, plan)
        # Several goals: what is done is not asked about.
        chart = great_map(3, ((0, 1),) * 30 + ((0, 2),), (1, 2))
        self.too_many(2000, most_evenings, chart, lambda standing: worth(chart, standing))
        chart = great_map(3, ((0, 1),) * 12 + ((0, 2), (0, 2)), (1, 2))
        asked = []

        def plan(standing):
            asked.append(standing)
            return worth(chart, standing)

        self.too_many(2000, most_evenings, chart, plan)
        self.assertEqual(asked, [((0,), ())])

    def test_12_arrows_and_13(self):
        twelve, thirteen = bundle(12), bundle(13)
        told = spread(twelve, self.single(twelve))
        self.assertEqual(told, [2 ** k for k in range(11, -1, -1)])
        self.assertEqual(worst_worlds(twelve, self.single(twelve)), [tuple(range(11))])
        self.assertEqual(weighed_up(twelve, self.single(twelve), lambda standing: tries(twelve, standing)[-1:]), (
            (2 ** 12 - 1 - self.level(12)) // 2,
            self.level(12),
            (2 ** 12 - 1 - self.level(12)) // 2,
        ))

        def plan(standing):
            raise OwnError()

        for call in (spread, worst_worlds, lambda chart, plan: weighed_up(chart, plan, plan)):
            self.too_many(12, call, thirteen, plan)
            with self.assertRaises(OwnError):
                call(twelve, plan)
        self.assertEqual(most_lost(thirteen, self.single(thirteen)), 12)

    def level(self, many):
        """In how many worlds of a bundle as many are rotten ahead of the first sound one as behind the last."""
        count = 0
        for world in range(2 ** many - 1):
            sound = [arrow for arrow in range(many) if not world >> arrow & 1]
            count += sound[0] == many - 1 - sound[-1]
        return count

    def test_refuted(self):
        self.assertEqual(refuted(PAIR, 1, self.single(PAIR)), ([((0, False),), ((1, True),)], (0,)))
        self.assertIsNone(refuted(PAIR, 2, self.single(PAIR)))
        self.assertIsNone(refuted(NINE, 1, self.single(NINE)))
        for lives in [0, -1, "1", (1,)] + odd_values():
            if not (type(lives) is int and lives > 0):
                for chart in (PAIR, TEN):
                    with self.assertRaises(NoNumber):
                        refuted(chart, lives, lambda standing: None)
        self.assertIsNone(refuted(PAIR, 10 ** 5000, self.single(PAIR)))

        def plan(standing):
            raise OwnError()

        self.too_many(9, refuted, TEN, 1, plan)
        with self.assertRaises(OwnError):
            refuted(NINE, 1, plan)
        self.assertIsNone(judged(TEN, self.single(TEN)))
        self.assertEqual((most_lost(TEN, self.single(TEN)), most_evenings(TEN, self.single(TEN))), (0, 9))

    def test_the_foe_of_the_part(self):
        chart = Map(*EXAMPLE)
        self.assertEqual(len(part(chart)[1]), 5)
        run, world = refuted(chart, 2, self.single(chart))
        self.assertEqual(len(world), 2)
        self.assertEqual(sum(len(pairs) for pairs in run), len(run))


if __name__ == "__main__":
    unittest.main()
