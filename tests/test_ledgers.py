"""Promise [13]: ledgers, gifts, and the part that a run shows."""

import random
import unittest

from untriedways.errors import NoRun, NoStanding, NoTry, NotDone, NotSensible, TooMany
from untriedways.ledgers import gifts, ledger, run_part
from untriedways.maps import Map, great_map
from untriedways.parts import excess, part_fault, worst
from untriedways.plans import sent_by, walk
from untriedways.runs import Party
from untriedways.standings import begin, news, worth
from untriedways.tables import left
from tests.plain import PlainMap
from tests.samples import CHOSEN, EXAMPLE, odd_values, opens, pairs_of_maps
from tests.test_runs import CHOOSERS, run_of
from tests.test_tables import plain_left

LINE = tuple((place, place + 1) for place in range(9))


def lost_in(run):
    return sum(not sound for pairs in run for _, sound in pairs)


def sensible_runs(plain, most):
    """All sensible runs that are done, by crowds of at most so many."""
    found = []
    begun = [(((0,), ()), [])]
    while begun:
        standing, run = begun.pop()
        if plain.is_done(standing):
            found.append(run)
        else:
            worthy = set(plain.worth(standing))
            for lot in plain.crowds(standing):
                if len(lot) <= most and set(lot) <= worthy:
                    begun += [(behind, run + [pairs]) for pairs, behind in plain.possible(standing, lot)]
    return found


class LedgerTest(unittest.TestCase):
    def test_runs_in_all_worlds_cut_at_each_evening(self):
        for chart, plain in pairs_of_maps():
            known = {}
            for world in plain.worlds:
                for choose in CHOOSERS:
                    self.one(chart, plain, run_of(chart, plain, world, choose), known)

    def one(self, chart, plain, run, known):
        standing, rows = begin(chart), []
        for k in range(len(run) + 1):
            self.assertEqual(ledger(chart, run[:k]), rows)
            if standing not in known:
                known[standing] = plain_left(plain, standing)
            if k < len(run):
                behind = plain.behind(standing, run[k])
                lost = lost_in(run[k:k + 1])
                known[behind] = known[behind] if behind in known else plain_left(plain, behind)
                rows.append((lost, known[standing] - known[behind] - lost))
                standing = behind
        self.assertEqual(sum(lost + gift for lost, gift in rows), worst(chart) - known[standing])

    def test_no_gift_of_sensible_runs_is_below_0(self):
        for parts in CHOSEN[1:]:
            chart, plain = Map(*parts), PlainMap(*parts)
            for run in sensible_runs(plain, 2):
                rows = ledger(chart, run)
                self.assertTrue(all(gift >= 0 for _, gift in rows))
                self.assertEqual(sum(map(sum, rows)), worst(chart))

    def test_by_hand(self):
        chart = Map(*EXAMPLE)
        self.assertEqual(ledger(chart, [((0, False), (1, True)), ((3, True), (5, True))]), [(1, 0), (0, 1)])
        chart = Map(3, ((0, 1), (0, 2)), (1,))
        self.assertEqual(ledger(chart, [((1, False),)]), [(1, -1)])
        self.assertEqual(ledger(chart, [((0, True), (1, False))]), [(1, -1)])

    def test_no_run(self):
        chart = Map(*EXAMPLE)
        for run in [value for value in odd_values() if value != []] + [[((2, True),)], [((0, False), (1, False))]]:
            with self.assertRaises(NoRun):
                ledger(chart, run)
            with self.assertRaises(NoRun):
                run_part(chart, run)

    def test_ten_places_that_count(self):
        chart = Map(10, LINE, (9,))
        self.assertEqual(ledger(chart, []), [])
        with self.assertRaises(TooMany) as caught:
            ledger(chart, [((0, True),)])
        self.assertEqual(caught.exception.most, 9)
        for run in ([((1, True),)], None, [()]):
            with self.assertRaises(NoRun):
                ledger(chart, run)
        chart = Map(9, LINE[:8], (8,))
        self.assertEqual(ledger(chart, [((0, True),)]), [(0, 0)])


class GiftsTest(unittest.TestCase):
    def test_every_try_at_every_standing(self):
        for chart, plain in pairs_of_maps():
            known = {standing: plain_left(plain, standing) for standing in plain.standings()}
            for standing in known:
                for arrow in plain.tries(standing):
                    self.one(chart, plain, known, standing, arrow)

    def one(self, chart, plain, known, standing, arrow):
        rotten = plain.news(standing, arrow, False)
        sound = plain.news(standing, arrow, True)
        first = None if rotten is None else known[standing] - known[rotten] - 1
        told = gifts(chart, standing, arrow)
        self.assertEqual(told, (first, known[standing] - known[sound]))
        self.assertIs(type(told), tuple)
        if arrow in plain.worth(standing):
            self.assertIn(0, told)
            self.assertTrue(all(gift is None or gift >= 0 for gift in told))

    def test_refused_in_order(self):
        chart = Map(10, LINE, (9,))
        for standing in odd_values() + [((0, 2), ()), ([0], ())]:
            for arrow in (0, 1, None):
                with self.assertRaises(NoStanding):
                    gifts(chart, standing, arrow)
        for arrow in odd_values() + [1, (0,), "0", 9]:
            with self.assertRaises(NoTry):
                gifts(chart, begin(chart), arrow)
        with self.assertRaises(TooMany) as caught:
            gifts(chart, begin(chart), 0)
        self.assertEqual(caught.exception.most, 9)
        self.assertEqual(gifts(chart, ((0, 1), ()), 1), (None, 0))

    def test_at_a_done_standing(self):
        chart = Map(12, ((0, 1), (1, 2)) + tuple((2, place) for place in range(3, 12)), (1,))
        self.assertEqual(gifts(chart, ((0, 1), ()), 1), (-1, 0))


class RunPartTest(unittest.TestCase):
    def shown(self, chart, run):
        told = run_part(chart, run)
        self.assertIsNone(part_fault(chart, told))
        self.assertGreaterEqual(excess(told), lost_in(run))
        return told

    def test_all_sensible_runs_of_small_maps(self):
        for chart, plain in pairs_of_maps():
            for run in sensible_runs(plain, 9 if len(plain.arrows) < 5 else 2):
                self.shown(chart, run)

    def test_the_example_in_all_worlds_by_all_that_is_worth_it(self):
        chart, plain = Map(*EXAMPLE), PlainMap(*EXAMPLE)
        for world in plain.worlds:
            for name in ("first", "last", "all", "near", "far"):
                lost, run = walk(chart, world, lambda standing: sent_by(chart, name, standing))
                self.assertGreaterEqual(excess(self.shown(chart, run)), lost)

    def test_whoever_is_lost_on_the_way_to_places_that_nobody_reaches(self):
        # 1, 2 and 3 are never reached; the ways from them meet.
        arrows = ((0, 1), (0, 1), (0, 2), (1, 3), (2, 3), (3, 4), (0, 4), (1, 2), (2, 1))
        chart = Map(5, arrows, (4,))
        run = [((0, False), (2, False)), ((1, False),), ((6, True),)]
        self.shown(chart, run)
        self.shown(chart, [((0, False),), ((1, False), (2, False), (6, True))])

    def test_random_maps_of_many_places(self):
        dice = random.Random(11)
        runs = 0
        while runs < 400:
            many = dice.randint(4, 40)
            pairs = tuple(tuple(dice.sample(range(many), 2)) for _ in range(dice.randint(many, 60)))
            goals = tuple(sorted(dice.sample(range(1, many), dice.randint(1, 3))))
            if opens(many, pairs, goals):
                runs += 1
                chart = Map(many, pairs, goals)
                self.shown(chart, self.random_run(chart, dice, goals))

    def random_run(self, chart, dice, goals):
        """A sensible run with as many lost as can be, by crowds of any size."""
        standing, run = begin(chart), []
        while not set(goals) <= set(standing[0]):
            worthy = worth(chart, standing)
            lot = sorted(dice.sample(worthy, dice.randint(1, min(4, len(worthy)))))
            pairs, heads = [], set()
            for arrow in lot:
                lost = (standing[0], tuple(sorted((*standing[1], arrow))))
                sound = dice.random() < 0.2 or not self.is_right(chart, lost)
                pairs.append((arrow, sound))
                if sound:
                    heads.add(chart.arrows()[arrow][1])
                else:
                    standing = lost
            run.append(tuple(pairs))
            standing = (tuple(sorted(heads | set(standing[0]))), standing[1])
        return run

    def is_right(self, chart, standing):
        try:
            worth(chart, standing)
        except NoStanding:
            return False
        return True

    def test_great_maps(self):
        arrows = tuple((place, place + 1) for place in range(99) for _ in range(3))
        chart = great_map(100, arrows, (50, 99))
        standing, run = begin(chart), []
        while standing[0][-1] < 99:
            one, two, three = worth(chart, standing)
            run += [((one, False), (two, False)), ((three, True),)]
            standing = news(chart, news(chart, news(chart, standing, one, False), two, False), three, True)
        self.assertGreaterEqual(excess(self.shown(chart, run)), 198)

    def test_not_done_ahead_of_not_sensible(self):
        chart = Map(4, ((0, 1), (0, 2), (2, 3), (0, 1)), (1,))
        with self.assertRaises(NotDone):
            run_part(chart, [])
        with self.assertRaises(NotDone):
            run_part(chart, [((0, False),)])
        with self.assertRaises(NotDone):
            run_part(chart, [((1, True),)])
        for run in ([((1, True),), ((0, True),)], [((0, True), (1, False))], [((1, False),), ((0, False), (3, True))]):
            with self.assertRaises(NotSensible):
                run_part(chart, run)
        with self.assertRaises(NoRun):
            run_part(chart, [((0, True),), ((1, True),)])
        self.assertEqual(excess(self.shown(chart, [((0, True), (3, True))])), 1)

    def test_it_is_a_part_of_a_run_of_a_party(self):
        chart = Map(*EXAMPLE)
        party = Party(chart, (1, 4))
        for lot in ((0, 1), (2, 4), (5,)):
            party.send(lot)
        self.assertEqual(party.lost(), 2)
        self.assertEqual(excess(self.shown(chart, party.run())), 2)
        self.assertEqual(left(chart, party.standing()), 0)
