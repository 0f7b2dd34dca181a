"""Promise [8]: parties, and runs that are judged, against a plain search."""

import unittest

from untriedways.errors import Done, NoRun, NoTries, NoWorld
from untriedways.maps import Map
from untriedways.runs import Party, run_fault, run_standing
from untriedways.standings import begin
from tests.plain import PlainMap
from tests.samples import CHOSEN, EXAMPLE, nested, odd_values, pairs_of_maps

# What is sent of the tries of a standing.
CHOOSERS = [
    lambda tried: tried,
    lambda tried: tried[:1],
    lambda tried: tried[-1:],
    lambda tried: tried[:2],
    lambda tried: tried[::2],
]


def plain_fault(plain, run):
    """The fault of a run that has the right form, by the words of the document."""
    standing = ((0,), ())
    for k, pairs in enumerate(run):
        if plain.is_done(standing):
            return ("done", k)
        for arrow, _ in pairs:
            if arrow not in plain.tries(standing):
                return ("try", k, arrow)
        standing = plain.behind(standing, pairs)
        if standing is None:
            return ("news", k)
    return None


def every_walk():
    """For each sample map and world and chooser: the map, the plain one, the world, the chooser."""
    for chart, plain in pairs_of_maps():
        for world in plain.worlds:
            for choose in CHOOSERS:
                yield chart, plain, world, choose


def run_of(chart, plain, world, choose):
    """The run of a party that is led by a chooser to its end."""
    party = Party(chart, world)
    while not plain.is_done(party.standing()):
        party.send(choose(plain.tries(party.standing())))
    return party.run()


class PartyTest(unittest.TestCase):
    def test_parties_in_all_worlds_by_crowds_and_single_tries(self):
        for chart, plain, world, choose in every_walk():
            party = Party(chart, world)
            standing, run, sensible = ((0,), ()), [], True
            while not plain.is_done(standing):
                self.seen(party, standing, run, sensible)
                lot = choose(plain.tries(standing))
                flags = tuple(arrow not in world for arrow in lot)
                told = party.send(lot)
                self.assertEqual(told, flags)
                self.assertEqual([type(flag) for flag in told], [bool] * len(flags))
                run.append(tuple(zip(lot, flags)))
                sensible = sensible and set(lot) <= set(plain.worth(standing))
                standing = plain.behind(standing, run[-1])
            self.seen(party, standing, run, sensible)
            for lot in ((0,), (), None, plain.tries(standing)):
                with self.assertRaises(Done):
                    party.send(lot)
            self.seen(party, standing, run, sensible)

    def seen(self, party, standing, run, sensible):
        self.assertEqual(party.standing(), standing)
        self.assertEqual(party.run(), run)
        self.assertEqual(party.evenings(), len(run))
        self.assertEqual(party.lost(), sum(not sound for pairs in run for _, sound in pairs))
        self.assertIs(party.sensible(), sensible)

    def test_each_crowd_at_the_begin_of_each_world(self):
        for parts in CHOSEN:
            chart, plain = Map(*parts), PlainMap(*parts)
            for world in plain.worlds:
                party = Party(chart, world)
                for lot in plain.crowds(begin(chart)):
                    flags = party.send(lot)
                    pairs = tuple(zip(lot, flags))
                    self.assertEqual(flags, tuple(arrow not in world for arrow in lot))
                    self.assertEqual(party.standing(), plain.behind(begin(chart), pairs))
                    self.assertIs(party.back(), True)
                    self.seen(party, begin(chart), [], True)
                self.assertIs(party.back(), False)

    def test_two_arrows_of_one_evening_to_one_place(self):
        chart = Map(3, ((0, 1), (0, 1), (0, 1), (1, 2)), (2,))
        party = Party(chart, (1,))
        self.assertEqual(party.send((0, 1, 2)), (True, False, True))
        self.assertEqual(party.standing(), ((0, 1), (1,)))
        self.assertEqual((party.lost(), party.evenings()), (1, 1))

    def test_back_to_the_begin_and_otherwise(self):
        chart = Map(*EXAMPLE)
        party = Party(chart, (0, 4))
        party.send((0, 1))
        party.send((3, 5))
        self.seen(party, ((0, 1, 2, 3), (0,)), [((0, False), (1, True)), ((3, True), (5, True))], True)
        self.assertIs(party.back(), True)
        self.seen(party, ((0, 2), (0,)), [((0, False), (1, True))], True)
        self.assertIs(party.back(), True)
        self.assertIs(party.back(), False)
        self.assertIs(party.back(), False)
        self.seen(party, ((0,), ()), [], True)
        self.assertEqual(party.send((1,)), (True,))
        self.seen(party, ((0, 2), ()), [((1, True),)], True)

    def test_sensible_again_behind_back(self):
        chart = Map(4, ((0, 1), (0, 2), (0, 3)), (1,))
        party = Party(chart, (1,))
        party.send((2,))
        self.assertIs(party.sensible(), False)
        party.back()
        self.assertIs(party.sensible(), True)
        party.send((1, 2))
        self.assertIs(party.sensible(), False)
        party.back()
        party.send((0, 1))
        self.assertIs(party.sensible(), False)
        party.back()
        party.send((0,))
        self.assertIs(party.sensible(), True)

    def test_worth_at_the_begin_of_the_evening_is_enough(self):
        # Behind arrow 0 the place 2 is dead, but both go at once.
        chart = Map(4, ((0, 1), (0, 2), (2, 1), (1, 3)), (3,))
        party = Party(chart, ())
        party.send((0, 1))
        self.assertIs(party.sensible(), True)
        other = Party(chart, ())
        other.send((0,))
        other.send((1,))
        self.assertIs(other.sensible(), False)

    def test_copies_go_their_own_way(self):
        chart = Map(*EXAMPLE)
        party = Party(chart, (1, 4))
        party.send((1,))
        party.send((0,))
        party.back()
        one = party.copy()
        two = one.copy()
        self.assertIsInstance(one, Party)
        here = ((0,), (1,))
        one.send((0,))
        self.seen(party, here, [((1, False),)], True)
        self.seen(two, here, [((1, False),)], True)
        self.seen(one, ((0, 1), (1,)), [((1, False),), ((0, True),)], True)
        self.assertIs(two.back(), True)
        self.assertIs(two.back(), False)
        self.seen(two, begin(chart), [], True)
        self.seen(party, here, [((1, False),)], True)
        party.send((0,))
        party.send((2, 4))
        self.seen(one, ((0, 1), (1,)), [((1, False),), ((0, True),)], True)
        self.assertIs(one.back(), True)
        self.assertIs(one.back(), True)
        self.assertIs(one.back(), False)
        self.assertEqual(two.send((0, 1)), (True, False))

    def test_copies_of_a_party_that_is_not_sensible(self):
        chart = Map(3, ((0, 1), (0, 2)), (1,))
        party = Party(chart, (1,))
        party.send((1,))
        other = party.copy()
        self.assertIs(other.sensible(), False)
        other.back()
        self.assertIs(other.sensible(), True)
        self.assertIs(party.sensible(), False)


class RefusedTest(unittest.TestCase):
    def test_no_world(self):
        for chart, plain in [(Map(*parts), PlainMap(*parts)) for parts in CHOSEN]:
            for value in odd_values() + [[], (len(plain.arrows),), tuple(range(len(plain.arrows)))]:
                with self.assertRaises(NoWorld):
                    Party(chart, value)
        with self.assertRaises(NoWorld):
            Party(Map(*EXAMPLE), (0, 1))
        with self.assertRaises(NoWorld):
            Party(Map(*EXAMPLE), (2, 1))
        with self.assertRaises(NoWorld):
            Party(Map(*EXAMPLE), (True,))

    def test_no_tries(self):
        chart = Map(*EXAMPLE)
        party = Party(chart, (2,))
        party.send((0,))
        # Not found, behind the head, rotten, flags, lists, twice, not ascending, among right ones.
        wrong = [(), (0,), (3,), (5,), (6,), (-1,), (True,), (1, True), [1], [1, 2], (1, 1), (2, 1)]
        wrong += [(1, 3), (0, 1), 1, {1: 1}, "1", ((1,),), (1, None), (1, 2, 4, 10 ** 5000), None]
        for lot in wrong + odd_values():
            with self.assertRaises(NoTries):
                party.send(lot)
            self.assertEqual((party.standing(), party.run()), (((0, 1), ()), [((0, True),)]))
            self.assertEqual((party.lost(), party.evenings(), party.sensible()), (0, 1, True))
        self.assertEqual(party.send((1, 2, 4)), (True, False, True))
        for lot in wrong + odd_values():
            with self.assertRaises(Done):
                party.send(lot)
        self.assertIs(party.back(), True)
        with self.assertRaises(NoTries):
            party.send((0,))

    def test_a_rotten_arrow_is_not_tried_again(self):
        party = Party(Map(2, ((0, 1), (0, 1)), (1,)), (0,))
        party.send((0,))
        with self.assertRaises(NoTries):
            party.send((0,))
        with self.assertRaises(NoTries):
            party.send((0, 1))
        self.assertEqual(party.lost(), 1)


class RunFaultTest(unittest.TestCase):
    def judged(self, chart, run, fault):
        told = run_fault(chart, run)
        self.assertEqual(told, fault)
        if fault is not None:
            self.assertEqual([type(item) for item in told], [type(item) for item in fault])
            with self.assertRaises(NoRun):
                run_standing(chart, run)

    def test_runs_of_parties_have_no_fault_at_any_evening(self):
        for chart, plain, world, choose in every_walk():
            run = run_of(chart, plain, world, choose)
            standing = begin(chart)
            for k in range(len(run) + 1):
                self.assertIsNone(run_fault(chart, run[:k]))
                self.assertEqual(run_standing(chart, run[:k]), standing)
                if k < len(run):
                    standing = plain.behind(standing, run[k])

    def test_runs_with_one_thing_changed(self):
        faults = set()
        for parts in CHOSEN:
            chart, plain = Map(*parts), PlainMap(*parts)
            for world in plain.worlds[:6]:
                for choose in CHOOSERS:
                    run = run_of(chart, plain, world, choose)
                    for other in self.changed(run, len(plain.arrows)):
                        fault = plain_fault(plain, other)
                        faults.add(fault and fault[0])
                        self.judged(chart, other, fault)
        self.assertEqual(faults, {None, "done", "try", "news"})

    def changed(self, run, many):
        """The run with one thing changed, at each place, its form still right."""
        for k, pairs in enumerate(run):
            yield run[:k] + run[k + 1:]
            yield run[:k + 1] + run[k:]
            yield run[:k] + [((many, True),)] + run[k:]
            yield run + [pairs]
            yield run + [((10 ** 5000, False),)]
            yield run + [((-1, False),)]
            for at, (arrow, sound) in enumerate(pairs):
                rest = pairs[:at] + pairs[at + 1:]
                yield run[:k] + [tuple(sorted([*rest, (arrow, not sound)]))] + run[k + 1:]
                if rest:
                    yield run[:k] + [rest] + run[k + 1:]
                for other in range(-1, many + 1):
                    if other not in [one for one, _ in rest]:
                        yield run[:k] + [tuple(sorted([*rest, (other, sound)]))] + run[k + 1:]

    def test_form(self):
        chart = Map(*EXAMPLE)
        right = ((0, True), (1, False))
        wrong = [
            (right,),
            [list(right)],
            [([0, True], (1, False))],
            [((0, True), [1, False])],
            [()],
            [right, ()],
            [(), right],
            [((0, 1),)],
            [((0, 0),)],
            [((0, None),)],
            [((0, "True"),)],
            [((True, True),)],
            [((False, False),)],
            [((0, True), (True, False))],
            [(("0", True),)],
            [((0, True, False),)],
            [((0,),)],
            [(0, True)],
            [((1, False), (0, True))],
            [((0, True), (0, True))],
            [((0, True), (0, False))],
            [((0, True), (1, True), (1, False))],
            [right, ((4, True), (4, True))],
            [right, {4: True}],
            {0: right},
            [0],
            [None],
            "run",
            [right, nested(29, lambda value: (value,))],
            [right, nested(29, lambda value: [value])],
            [(nested(28, lambda value: (value, value)),)],
            [((0, Map(*EXAMPLE)),)],
            [((Map(*EXAMPLE), True),)],
            [Party(chart, ())],
            Party(chart, ()),
        ]
        for value in wrong + [value for value in odd_values() if value != []]:
            self.judged(chart, value, ("form",))
        self.assertIsNone(run_fault(chart, [right]))
        self.assertIsNone(run_fault(chart, []))
        self.assertEqual(run_standing(chart, []), begin(chart))

    def test_an_evening_behind_the_end(self):
        chart = Map(2, ((0, 1), (0, 1)), (1,))
        self.judged(chart, [((0, True),), ((1, True),)], ("done", 1))
        self.judged(chart, [((0, False),), ((1, True),), ((7, True),)], ("done", 2))
        self.assertIsNone(run_fault(chart, [((0, False), (1, True))]))

    def test_no_try_any_more(self):
        chart = Map(*EXAMPLE)
        self.judged(chart, [((0, True),), ((0, True),)], ("try", 1, 0))
        self.judged(chart, [((0, True), (1, True)), ((2, True),)], ("try", 1, 2))
        self.judged(chart, [((0, False),), ((0, False),)], ("try", 1, 0))
        self.judged(chart, [((0, True), (2, True))], ("try", 0, 2))
        self.judged(chart, [((-5, True), (0, True))], ("try", 0, -5))

    def test_no_news(self):
        chart = Map(*EXAMPLE)
        self.judged(chart, [((0, False), (1, False))], ("news", 0))
        self.judged(chart, [((0, False),), ((1, False),)], ("news", 1))
        self.judged(chart, [((0, True),), ((4, False),), ((2, False),), ((1, False),)], ("news", 3))
        self.assertIsNone(run_fault(chart, [((0, True),), ((4, False),), ((2, False),), ((1, True),)]))

    def test_two_faults(self):
        chart = Map(*EXAMPLE)
        lost = ((0, False), (1, False))
        # The form of a later evening ahead of all; then evening by evening.
        self.judged(chart, [lost, ()], ("form",))
        self.judged(chart, [((5, True),), ((0, 1),)], ("form",))
        self.judged(chart, [lost, ((0, True),)], ("news", 0))
        self.judged(chart, [((0, False), (1, False), (2, True))], ("try", 0, 2))
        self.judged(chart, [((2, True), (3, True))], ("try", 0, 2))
        home = [((0, True),), ((4, True),)]
        self.judged(chart, home + [((0, True),)], ("done", 2))
        self.judged(chart, home + [((2, True),), lost], ("done", 2))
        self.judged(chart, [((3, True),)] + home, ("try", 0, 3))
        self.judged(chart, [((0, True),), ((0, True), (4, True)), ((9, True),)], ("try", 1, 0))
