"""Promise [10]: parts and the worst, against a search through all orders of all lots of places."""

import random
import unittest

from untriedways.errors import ManyGoals, NoPart, TooMany
from untriedways.maps import Map, great_map
from untriedways.parts import excess, greatest_lots, on_ways, part, part_fault, turned, worst
from tests.plain import PlainMap, greatest_excess, lots_of
from tests.samples import CHOSEN, EXAMPLE, nested, odd_values, opens, pairs_of_maps

COUNTING = (worst, part, greatest_lots, on_ways)


def random_maps(many, size, count, seed):
    """Some maps of so many places and arrows, perhaps with parallel arrows and several goals."""
    dice = random.Random(seed)
    found = []
    while len(found) < count:
        pairs = [tuple(dice.sample(range(many), 2)) for _ in range(size)]
        goals = tuple(sorted(dice.sample(range(1, many), dice.randint(1, min(3, many - 1)))))
        if opens(many, tuple(pairs), goals):
            found.append((many, tuple(pairs), goals))
    return found


def plain_fault(plain, order, arrows):
    """The fault of a tuple of unlike places and a lot of arrows, by the words of the document."""
    if order[:1] != (0,) or set(plain.goals) - set(order):
        return ("ends",)
    for arrow in arrows:
        tail, head = plain.arrows[arrow]
        if not {tail, head} <= set(order) or order.index(tail) > order.index(head):
            return ("back", arrow)
    for place in order[1:]:
        if place not in [plain.arrows[arrow][1] for arrow in arrows]:
            return ("in", place)
    for place in order:
        if place not in plain.goals and place not in [plain.arrows[arrow][0] for arrow in arrows]:
            return ("out", place)
    return None


class WorstTest(unittest.TestCase):
    def agrees(self, chart, greatest, lots):
        self.assertEqual(worst(chart), greatest)
        self.assertEqual(greatest_lots(chart), lots)
        told = part(chart)
        self.assertIsNone(part_fault(chart, told))
        self.assertEqual(excess(told), greatest)
        self.assertIn(tuple(sorted(told[0])), lots)

    def test_all_small_maps_against_all_parts(self):
        for chart, plain in pairs_of_maps():
            parts = plain.parts()
            greatest = max(len(arrows) - len(order) + 1 for order, arrows in parts)
            best = [order for order, arrows in parts if len(arrows) - len(order) + 1 == greatest]
            self.agrees(chart, greatest, sorted({tuple(sorted(order)) for order in best}))
            self.assertEqual(greatest_excess(plain.many, plain.arrows, plain.goals)[0], greatest)
            self.assertTrue(plain.is_part(*part(chart)))

    def test_greater_maps_against_all_orders(self):
        for many, size, count in ((4, 8, 60), (5, 9, 40), (5, 16, 40), (6, 12, 40), (7, 18, 4), (2, 60, 1), (4, 60, 6)):
            for parts in random_maps(many, size, count, many * size):
                self.agrees(Map(*parts), *greatest_excess(*parts))

    def test_the_example(self):
        chart = Map(*EXAMPLE)
        self.assertEqual(worst(chart), 2)
        self.assertEqual(greatest_lots(chart), [(0, 1, 2, 3)])

    def test_parallel_arrows(self):
        self.assertEqual(worst(Map(2, ((0, 1),) * 60, (1,))), 59)
        self.assertEqual(worst(Map(2, ((0, 1),), (1,))), 0)
        self.assertEqual(worst(Map(3, ((0, 1), (0, 1), (1, 2), (1, 2), (1, 0)), (2,))), 2)

    def test_a_place_may_be_better_left_out(self):
        # Place 1 costs a place and gives no arrow more, or it is as good.
        chart = Map(3, ((0, 2), (0, 2), (0, 1), (1, 2)), (2,))
        self.assertEqual(greatest_lots(chart), [(0, 1, 2)])
        chart = Map(4, ((0, 1), (1, 2), (2, 1), (0, 2), (2, 3)), (1,))
        self.assertEqual((worst(chart), greatest_lots(chart)), (1, [(0, 1, 2)]))

    def test_goals_on_the_way_to_goals(self):
        chart = Map(4, ((0, 1), (1, 2), (2, 3), (0, 3), (1, 3), (3, 1)), (1, 2, 3))
        self.agrees(chart, *greatest_excess(4, chart.arrows(), (1, 2, 3)))
        self.assertEqual(worst(chart), 2)

    def test_rings_lower_it(self):
        chart = Map(*EXAMPLE)
        self.assertLess(worst(chart), len(on_ways(chart)) - 4 + 1)


class CountTest(unittest.TestCase):
    def line(self, many, more=()):
        return tuple((place, place + 1) for place in range(many - 1)) + tuple(more)

    def test_nine_places_count_and_ten_are_too_many(self):
        nine = Map(9, self.line(9), (8,))
        self.assertEqual((worst(nine), len(on_ways(nine))), (0, 8))
        self.assertEqual(part(nine), (tuple(range(9)), tuple(range(8))))
        self.refused(Map(10, self.line(10), (9,)))

    def refused(self, chart):
        for call in COUNTING:
            with self.assertRaises(TooMany) as caught:
                call(chart)
            self.assertEqual(caught.exception.most, 9)

    def test_dead_places_do_not_count(self):
        # From the places behind 8 nobody comes to the goal, and from 39 only.
        more = [(place, place + 1) for place in range(9, 38)] + [(0, 9), (38, 9), (39, 8), (39, 1)]
        chart = Map(40, self.line(9, more), (8,))
        self.assertEqual((worst(chart), greatest_lots(chart)), (0, [tuple(range(9))]))
        self.assertEqual(on_ways(chart), tuple(range(8)))
        # One of them more leads to the goal.
        self.refused(Map(40, self.line(9, more + [(20, 8)]), (8,)))

    def test_a_place_that_leads_back_to_the_start_counts(self):
        chart = Map(10, self.line(9, [(0, 9), (9, 0)]), (8,))
        self.refused(chart)

    def test_goals_count_though_nothing_leads_on_from_them(self):
        star = tuple((0, place) for place in range(1, 10))
        self.refused(Map(10, star, tuple(range(1, 10))))
        chart = Map(10, star, tuple(range(1, 9)))
        self.assertEqual((worst(chart), greatest_lots(chart)), (0, [tuple(range(9))]))

    def test_great_maps(self):
        arrows = self.line(100) + ((99, 100),) * 3
        self.refused(great_map(101, arrows, (100,)))
        arrows = tuple((0, place) for place in range(1, 100)) + ((0, 100), (50, 100)) * 40
        chart = great_map(101, arrows, (100,))
        self.assertEqual((worst(chart), greatest_lots(chart)), (79, [(0, 50, 100)]))
        self.assertEqual(on_ways(chart), (49, *range(99, 179)))
        self.assertIsNone(part_fault(chart, part(chart)))


class PartFaultTest(unittest.TestCase):
    def test_all_orders_and_lots_of_some_maps(self):
        told = set()
        for parts in CHOSEN[:4] + CHOSEN[-3:]:
            chart, plain = Map(*parts), PlainMap(*parts)
            for places in lots_of(plain.many):
                for order in {places, places[::-1], places[:1] + places[:0:-1], places[1:] + places[:1]}:
                    for arrows in lots_of(len(plain.arrows)):
                        fault = plain_fault(plain, order, arrows)
                        told.add(fault and fault[0])
                        self.assertEqual(part_fault(chart, (order, arrows)), fault)
        self.assertEqual(told, {None, "ends", "back", "in", "out"})

    def test_form(self):
        chart = Map(*EXAMPLE)
        wrong = [
            ((0, 1, 3), [0, 4]),
            [(0, 1, 3), (0, 4)],
            ([0, 1, 3], (0, 4)),
            ((0, 1, 3, 1), (0, 4)),
            ((0, 1, 4), (0, 4)),
            ((0, 1, -1), (0, 4)),
            ((False, 1, 3), (0, 4)),
            ((0, True, 3), (0, 4)),
            ((0, 1, 3), (False, 4)),
            ((0, 1, 3), (4, 0)),
            ((0, 1, 3), (0, 0, 4)),
            ((0, 1, 3), (0, 6)),
            ((0, 1, 3), (-1, 4)),
            ((0, 1, 3), (0, 4), ()),
            ((0, 1, 3),),
            ((0, 1, None), (0, 4)),
            ((0, (1,), 3), (0, 4)),
            ((0, [1], 3), (0, 4)),
            ((0, {1: 1}, 3), (0, 4)),
            ((0, chart, 3), (0, 4)),
            ((0, 1, 3), None),
            ((0, 1, 3), "04"),
            ("013", (0, 4)),
            (nested(29, lambda value: (value,)), (0, 4)),
            {0: (0, 1, 3), 1: (0, 4)},
        ]
        for value in wrong + [value for value in odd_values() if value != ((), ())]:
            self.assertEqual(part_fault(chart, value), ("form",))
        self.assertEqual(part_fault(chart, ((), ())), ("ends",))

    def test_each_fault_alone(self):
        chart = Map(*EXAMPLE)
        self.assertIsNone(part_fault(chart, ((0, 1, 3), (0, 4))))
        self.assertIsNone(part_fault(chart, ((0, 2, 1, 3), (0, 1, 3, 4, 5))))
        self.assertEqual(part_fault(chart, ((0, 1), (0,))), ("ends",))
        self.assertEqual(part_fault(chart, ((1, 0, 3), (4,))), ("ends",))
        self.assertEqual(part_fault(chart, ((0, 2, 1, 3), (0, 1, 2, 3, 4, 5))), ("back", 2))
        self.assertEqual(part_fault(chart, ((0, 1, 3), (0, 4, 5))), ("back", 5))
        self.assertEqual(part_fault(chart, ((0, 1, 2, 3), (0, 4, 5))), ("in", 2))
        self.assertEqual(part_fault(chart, ((0, 1, 2, 3), (0, 1, 4))), ("out", 2))

    def test_two_faults(self):
        chart = Map(*EXAMPLE)
        self.assertEqual(part_fault(chart, ((1, 1), (5,))), ("form",))
        self.assertEqual(part_fault(chart, ((1, 3), (2, 5))), ("ends",))
        self.assertEqual(part_fault(chart, ((0, 2, 1, 3), (2, 5))), ("back", 2))
        self.assertEqual(part_fault(chart, ((0, 3, 2, 1), (2, 4, 5))), ("back", 2))
        self.assertEqual(part_fault(chart, ((0, 2, 1, 3), (0,))), ("in", 2))
        self.assertEqual(part_fault(chart, ((0, 1, 2, 3), ())), ("in", 1))
        self.assertEqual(part_fault(chart, ((0, 2, 1, 3), (0, 1, 5))), ("out", 1))

    def test_the_first_place_is_that_of_the_order(self):
        chart = Map(4, ((0, 1), (0, 2), (0, 3), (2, 3), (1, 3)), (3,))
        self.assertEqual(part_fault(chart, ((0, 2, 1, 3), (2,))), ("in", 2))
        self.assertEqual(part_fault(chart, ((0, 2, 1, 3), (0, 1, 2))), ("out", 2))
        self.assertEqual(part_fault(chart, ((0, 1, 2, 3), (0, 1, 2))), ("out", 1))


class ExcessTest(unittest.TestCase):
    def test_any_tuple_of_two_tuples(self):
        self.assertEqual(excess(((0, 1), (0,))), 0)
        self.assertEqual(excess(((), ())), 1)
        self.assertEqual(excess(((None, "a", [1]), ())), -2)
        self.assertEqual(excess(((), ({}, 1.0, (), True))), 5)

    def test_no_part(self):
        wrong = [[(), ()], ((), []), ([], ()), ((),), ((), (), ()), ((), None), ("", ()), ((), "")]
        for value in wrong + [value for value in odd_values() if value != ((), ())]:
            deep = isinstance(value, tuple) and len(value) == 2 and {type(item) for item in value} == {tuple}
            if not deep:
                with self.assertRaises(NoPart):
                    excess(value)


class TurnedTest(unittest.TestCase):
    def test_turned_and_turned_again(self):
        for chart, plain in pairs_of_maps():
            if len(plain.goals) == 1:
                other = turned(chart)
                goal = plain.goals[0]
                new = {0: goal, goal: 0}
                arrows = [(new.get(head, head), new.get(tail, tail)) for tail, head in plain.arrows]
                self.assertTrue(other == Map(plain.many, tuple(arrows), plain.goals))
                self.assertTrue(turned(other) == chart)
                self.assertEqual(worst(other), worst(chart))
            else:
                with self.assertRaises(ManyGoals):
                    turned(chart)

    def test_greater_maps_are_as_bad_turned_about(self):
        for parts in random_maps(6, 14, 40, 7):
            if len(parts[2]) == 1:
                chart = Map(*parts)
                self.assertEqual(worst(turned(chart)), worst(chart))

    def test_great_maps(self):
        arrows = tuple((place, place + 1) for place in range(99)) + ((0, 99),) * 3
        chart = great_map(100, arrows, (99,))
        other = turned(chart)
        self.assertEqual(other.arrows()[:2], ((1, 99), (2, 1)))
        self.assertEqual(other.arrows()[98:], ((0, 98), (0, 99), (0, 99), (0, 99)))
        self.assertEqual((other.many(), other.goals()), (100, (99,)))
        self.assertTrue(turned(other) == chart)


class OnWaysTest(unittest.TestCase):
    def agrees(self, parts):
        chart, plain = Map(*parts), PlainMap(*parts)
        self.assertEqual(on_ways(chart), tuple(sorted({arrow for way in plain.ways() for arrow in way})))

    def test_against_all_ways(self):
        for chart, plain in pairs_of_maps():
            self.agrees((plain.many, plain.arrows, plain.goals))
        for many, size in ((4, 7), (5, 9), (6, 9)):
            for parts in random_maps(many, size, 30, many + size):
                self.agrees(parts)

    def test_ways_that_pass_goals(self):
        chart = Map(3, ((0, 1), (1, 2), (2, 1), (0, 2), (2, 0)), (1, 2))
        self.assertEqual(on_ways(chart), (0, 1, 2, 3))
        chart = Map(3, ((0, 1), (1, 2), (2, 1)), (1,))
        self.assertEqual(on_ways(chart), (0,))

    def test_without_rings_it_tells_the_worst(self):
        for parts in random_maps(6, 10, 60, 3):
            many, pairs, goals = parts
            arrows = tuple((min(pair), max(pair)) for pair in pairs)
            if opens(many, arrows, goals):
                chart = Map(many, arrows, goals)
                lying = on_ways(chart)
                places = {place for arrow in lying for place in arrows[arrow]}
                self.assertEqual(worst(chart), len(lying) - len(places) + 1)
