"""Promise [3]: what was returned and is changed changes no later answer; arguments stay as they were."""

import copy
import unittest

from untriedways.base import Base
from untriedways.chances import mean, mean_of, world_chance
from untriedways.desk import Desk
from untriedways.errors import WayError
from untriedways.evenings import evening_fault, evening_table, evenings, longest
from untriedways.foes import Foe, led_by_foe
from untriedways.joined import behind, beside, lowers, raises, stack_longest, stack_ways, stack_worst
from untriedways.knowing import facts_needed, lives_with, plan_fault, plan_with
from untriedways.latenews import late_walk, worst_among
from untriedways.ledgers import gifts, ledger, run_part
from untriedways.makers import cook, cooked_by_foe
from untriedways.maps import Map
from untriedways.parts import excess, greatest_lots, on_ways, part, part_fault, turned, worst
from untriedways.plans import sent_by, walk
from untriedways.prices import cheapest, price_table
from untriedways.recipes import (
    Cookery,
    kitchen_order,
    recipe_bound,
    recipe_news,
    recipe_table,
    recipe_tries,
    recipe_worst,
    serving,
)
from untriedways.runs import Party, run_fault, run_standing
from untriedways.standings import tries, worth
from untriedways.strangers import judged, most_evenings, most_lost, refuted, spread, weighed_up, worst_worlds
from untriedways.tables import left, rest_map, table, table_fault
from untriedways.texts import map_text, read_map, read_run, run_text
from untriedways.ties import on_tie_ways, tie_map, tie_part, tie_worst
from untriedways.wholeways import met_by, ways, ways_enough
from tests.samples import EXAMPLE

FACTS = (((0, False), (4, False)), ((1, True), (5, True)), ((0, False), (4, False)))
PRICES = (3, 0, 7, 2, 9, 5)
CHANCES = ((1, 2), (2, 3), (1, 4), (3, 5), (1, 2), (9, 10))
COOKERY = (4, (0,), (((0,), 1), ((0,), 2), ((1,), 2), ((1, 2), 3), ((0, 1), 3)), (3,))
RUN = [((0, False), (1, True)), ((3, True), (5, True))]


def sensible(chart):
    return lambda standing: worth(chart, standing)


def single(chart):
    return lambda standing: worth(chart, standing)[:1]


def foolish(chart):
    return lambda standing: tries(chart, standing)[-1:]


def late(chart):
    """A plan for news that come late."""
    return lambda standing, sent: tuple(arrow for arrow in worth(chart, standing) if arrow not in sent)


# Functions of a map, and what is passed behind it (a function of the map, where it needs the map).
CALLS = [
    (run_fault, lambda chart: (copy.deepcopy(RUN),)),
    (run_fault, lambda chart: ([[(0, True)]],)),
    (run_standing, lambda chart: (copy.deepcopy(RUN),)),
    (walk, lambda chart: ((0, 4), sensible(chart))),
    (walk, lambda chart: ((0, 4), single(chart))),
    (sent_by, lambda chart: ("near", ((0,), ()))),
    (worst, lambda chart: ()),
    (part, lambda chart: ()),
    (part_fault, lambda chart: (part(chart),)),
    (part_fault, lambda chart: ([[0, 1], {2: 3}],)),
    (greatest_lots, lambda chart: ()),
    (on_ways, lambda chart: ()),
    (led_by_foe, lambda chart: (part(chart), sensible(chart))),
    (left, lambda chart: (((0,), ()),)),
    (table, lambda chart: ()),
    (table_fault, lambda chart: (3, table(chart))),
    (table_fault, lambda chart: (3, {((0,), ()): [1]})),
    (ledger, lambda chart: (copy.deepcopy(RUN),)),
    (gifts, lambda chart: (((0,), ()), 0)),
    (run_part, lambda chart: (copy.deepcopy(RUN),)),
    (longest, lambda chart: ()),
    (evenings, lambda chart: (2,)),
    (evening_table, lambda chart: (2,)),
    (evening_fault, lambda chart: (2, evening_table(chart, 2))),
    (evening_fault, lambda chart: (2, {((0,), ()): [1, [0]]})),
    (late_walk, lambda chart: ((0, 4), late(chart), 2)),
    (worst_among, lambda chart: (1,)),
    (ways, lambda chart: ()),
    (met_by, lambda chart: ([(0, 4), (1, 5)], 2)),
    (met_by, lambda chart: (ways(chart), 4)),
    (ways_enough, lambda chart: (1,)),
    (lives_with, lambda chart: (FACTS,)),
    (plan_with, lambda chart: (FACTS,)),
    (plan_fault, lambda chart: (FACTS, 3, plan_with(chart, FACTS))),
    (plan_fault, lambda chart: (FACTS, 3, {(((0,), ()), ()): [1, 0]})),
    (facts_needed, lambda chart: (FACTS,)),
    (cheapest, lambda chart: (PRICES,)),
    (price_table, lambda chart: (PRICES,)),
    (mean, lambda chart: (CHANCES,)),
    (mean_of, lambda chart: (CHANCES, sensible(chart))),
    (world_chance, lambda chart: (CHANCES,)),
    (stack_worst, lambda chart: ()),
    (stack_longest, lambda chart: ()),
    (stack_ways, lambda chart: (3,)),
    (raises, lambda chart: (0,)),
    (lowers, lambda chart: (0,)),
    (judged, lambda chart: (sensible(chart),)),
    (judged, lambda chart: (foolish(chart),)),
    (refuted, lambda chart: (1, sensible(chart))),
    (most_lost, lambda chart: (single(chart),)),
    (most_evenings, lambda chart: (single(chart),)),
    (spread, lambda chart: (single(chart),)),
    (weighed_up, lambda chart: (single(chart), foolish(chart))),
    (worst_worlds, lambda chart: (foolish(chart),)),
]


# Functions of a cookery, likewise.
KITCHEN_CALLS = [
    (serving, lambda cookery: (((0,), ()),)),
    (recipe_tries, lambda cookery: (((0,), ()),)),
    (recipe_news, lambda cookery: (((0,), ()), 1, False)),
    (kitchen_order, lambda cookery: ()),
    (recipe_bound, lambda cookery: ()),
    (recipe_worst, lambda cookery: ()),
    (recipe_table, lambda cookery: ()),
    (cook, lambda cookery: ((1, 3), first_try(cookery))),
    (cooked_by_foe, lambda cookery: (first_try(cookery),)),
]


def first_try(cookery):
    return lambda standing: recipe_tries(cookery, standing)[0]


def kinds(value):
    """The value with the kinds of all that is in it, so that True and 1 differ."""
    if isinstance(value, (list, tuple)):
        return (type(value), [kinds(item) for item in value])
    if isinstance(value, dict):
        return (dict, sorted((kinds(key), kinds(value[key])) for key in value))
    return (str(type(value)), value)


def spoil(value):
    """Changes every list and dict that is in the value."""
    if isinstance(value, (list, tuple)):
        for item in value:
            spoil(item)
    if isinstance(value, dict):
        for key in value:
            spoil(value[key])
        value.clear()
        value["spoiled"] = "spoiled"
    if isinstance(value, list):
        value.clear()
        value.append("spoiled")


class FreshTest(unittest.TestCase):
    def test_results_may_be_changed(self):
        chart = Map(*EXAMPLE)
        for call, make in CALLS:
            with self.subTest(call=call.__name__):
                first = call(chart, *make(chart))
                before = str(kinds(first))
                spoil(first)
                self.assertEqual(str(kinds(call(chart, *make(chart)))), before)
                self.assertEqual(str(kinds(call(Map(*EXAMPLE), *make(chart)))), before)
                self.assertTrue(chart == Map(*EXAMPLE))

    def test_arguments_stay_as_they_were(self):
        chart = Map(*EXAMPLE)
        for call, make in CALLS:
            told = [value for value in make(chart)]
            before = [value if callable(value) else copy.deepcopy(value) for value in told]
            call(chart, *told)
            self.assertEqual(told, before)

    def test_cookeries(self):
        cookery = Cookery(*COOKERY)
        for call, make in KITCHEN_CALLS:
            told = make(cookery)
            first = call(cookery, *told)
            before = str(kinds(first))
            spoil(first)
            self.assertEqual(str(kinds(call(cookery, *told))), before)
            self.assertEqual(str(kinds(call(Cookery(*COOKERY), *told))), before)
            self.assertTrue(cookery == Cookery(*COOKERY))

    def test_texts(self):
        run = copy.deepcopy(RUN)
        text = run_text(run)
        self.assertEqual(run, RUN)
        spoil(read_run(text))
        spoil(read_run("none"))
        self.assertEqual((read_run(text), read_run("none")), (RUN, []))
        chart = Map(*EXAMPLE)
        self.assertEqual(map_text(chart), map_text(chart))
        self.assertTrue(read_map(map_text(chart)) == chart and chart == Map(*EXAMPLE))

    def test_refused_values_stay_as_they_were(self):
        value = [[(0, True)], {1: [2]}]
        before = copy.deepcopy(value)
        for call in (run_text, read_map, read_run, Desk(Map(*EXAMPLE)).tell, stack_worst):
            with self.assertRaises(WayError):
                call(value)
            self.assertEqual(value, before)

    def test_the_run_of_a_party(self):
        chart = Map(*EXAMPLE)
        party = Party(chart, (0, 4))
        party.send((0, 1))
        other = party.copy()
        run = party.run()
        run.append(((3, True),))
        run[0] = ()
        self.assertEqual(party.run(), RUN[:1])
        self.assertEqual(other.run(), RUN[:1])
        self.assertEqual((party.lost(), party.evenings(), party.sensible()), (1, 1, True))
        party.run().clear()
        self.assertIs(party.back(), True)
        self.assertIs(party.back(), False)
        self.assertIsNot(other.run(), other.run())

    def test_the_run_of_a_foe(self):
        chart = Map(*EXAMPLE)
        foe = Foe(chart, part(chart), None)
        foe.hear((0, 1))
        before = foe.run()
        foe.run().clear()
        self.assertEqual(foe.run(), before)
        self.assertIs(foe.back(), True)

    def test_a_run_that_was_handed_in(self):
        chart = Map(*EXAMPLE)
        run = copy.deepcopy(RUN)
        self.assertEqual(run_standing(chart, run), ((0, 1, 2, 3), (0,)))
        self.assertEqual(run, RUN)

    def test_excess_leaves_what_it_is_of(self):
        value = (([0],), ([1], {2: 3}))
        self.assertEqual(excess(value), 2)
        self.assertEqual(value, (([0],), ([1], {2: 3})))

    def test_ties(self):
        ties = copy.deepcopy(EXAMPLE)
        for call in (on_tie_ways, tie_worst, tie_part, tie_map):
            self.assertTrue(call(*ties) == call(*copy.deepcopy(EXAMPLE)))
            self.assertEqual(ties, EXAMPLE)

    def test_a_stack(self):
        one = Map(*EXAMPLE)
        stack = ("behind", (one, ("beside", (one, one), 2)), 3)
        for call, told in ((stack_worst, ()), (stack_longest, ()), (stack_ways, (1000,))):
            self.assertEqual(call(stack, *told), call(stack, *told))
        self.assertEqual(stack[0::2], ("behind", 3))
        self.assertTrue(one == Map(*EXAMPLE))

    def test_the_map_of_a_base(self):
        chart = Map(*EXAMPLE)
        base = Base(chart)
        base.add(0, 3)
        base.strike(0)
        base.hear(6, False)
        self.assertTrue(chart == Map(*EXAMPLE))
        self.assertTrue(base.chart() == base.chart())
        self.assertEqual(base.standing(), base.standing())

    def test_maps_that_are_made_of_a_map(self):
        chart = Map(*EXAMPLE)
        self.assertTrue(turned(chart) == turned(chart))
        for join in (behind, beside):
            self.assertTrue(join(chart, chart) == join(Map(*EXAMPLE), chart))
        one, other = (rest_map(chart, ((0, 1), (1,))) for _ in range(2))
        self.assertTrue(one[0] == other[0])
        self.assertEqual(one[1:], other[1:])
        self.assertTrue(chart == Map(*EXAMPLE))
