"""Promise [21]: joined maps, stacks, and arrows more or less, against maps built by hand."""

import random
import unittest

from untriedways.base import Base
from untriedways.errors import ManyGoals, NoArrow, NoMap, NoNumber, NoStack, TooMany
from untriedways.evenings import evening_fault, evening_table, evenings, longest
from untriedways.foes import Foe, led_by_foe
from untriedways.joined import behind, beside, lowers, raises, stack_longest, stack_ways, stack_worst
from untriedways.latenews import late_walk, worst_among
from untriedways.ledgers import gifts, ledger, run_part
from untriedways.maps import Map, great_map, is_world
from untriedways.parts import excess, greatest_lots, on_ways, part, part_fault, turned, worst
from untriedways.plans import sent_by, walk
from untriedways.runs import Party, run_fault, run_standing
from untriedways.standings import alive, begin, dead_end, news, sure, tries, way_on, world_with, worth
from untriedways.strangers import judged, most_evenings, most_lost, refuted
from untriedways.tables import left, rest_map, table, table_fault
from untriedways.wholeways import met_by, ways, ways_enough
from tests.plain import PlainMap, greatest_excess
from tests.samples import CHOSEN, EXAMPLE, nested, odd_values, pairs_of_maps
from tests.test_parts import random_maps

SEVERAL = Map(3, ((0, 1), (1, 2)), (1, 2))
BRIDGE = Map(2, ((0, 1),), (1,))
GREAT = 10 ** 30
# Nine places count; and ten do.
NINE = Map(9, tuple((place, place + 1) for place in range(8)), (8,))
TEN = Map(10, tuple((place, place + 1) for place in range(9)), (9,))


def single_goal_parts():
    """The parts of small maps with one goal, which is not always the last place."""
    found = [parts for parts in CHOSEN if len(parts[2]) == 1]
    for many, size in ((3, 4), (4, 6)):
        found.extend(parts for parts in random_maps(many, size, 12, many) if len(parts[2]) == 1)
    return found


def joined_by_hand(one, other, same):
    """The parts of a joined map: `same` tells for places of the other map which places of the one they are."""
    labels = [("one", place) for place in range(one[0])]
    labels += [("other", place) for place in range(other[0]) if place not in same]
    name = {place: ("one", same[place]) if place in same else ("other", place) for place in range(other[0])}
    arrows = one[1] + tuple((labels.index(name[tail]), labels.index(name[head])) for tail, head in other[1])
    return len(labels), arrows, (labels.index(name[other[2][0]]),)


def behind_by_hand(one, other):
    return joined_by_hand(one, other, {0: one[2][0]})


def beside_by_hand(one, other):
    return joined_by_hand(one, other, {0: 0, other[2][0]: one[2][0]})


def parts_of(chart):
    return chart.many(), chart.arrows(), chart.goals()


class JoinTest(unittest.TestCase):
    def test_places_and_arrows(self):
        rows = single_goal_parts()
        for one in rows:
            for other in rows:
                self.assertEqual(parts_of(behind(Map(*one), Map(*other))), behind_by_hand(one, other))
                self.assertEqual(parts_of(beside(Map(*one), Map(*other))), beside_by_hand(one, other))

    def test_a_few_in_full(self):
        one = Map(4, ((0, 2), (2, 0), (3, 1), (2, 1), (1, 3)), (1,))
        other = Map(5, ((0, 1), (1, 2), (2, 4), (4, 3), (3, 0), (2, 0)), (2,))
        self.assertEqual(
            parts_of(behind(one, other)),
            (8, one.arrows() + ((1, 4), (4, 5), (5, 7), (7, 6), (6, 1), (5, 1)), (5,)),
        )
        self.assertEqual(
            parts_of(beside(one, other)),
            (7, one.arrows() + ((0, 4), (4, 1), (1, 6), (6, 5), (5, 0), (1, 0)), (1,)),
        )
        self.assertEqual(parts_of(beside(BRIDGE, BRIDGE)), (2, ((0, 1), (0, 1)), (1,)))
        self.assertEqual(parts_of(behind(BRIDGE, BRIDGE)), (3, ((0, 1), (1, 2)), (2,)))

    def test_worst_longest_and_ways_against_plain_searches(self):
        rows = [parts for parts in single_goal_parts() if parts[0] <= 4]
        dice = random.Random(5)
        for one in rows:
            for other in dice.sample(rows, 4):
                for join in (behind, beside):
                    self.one(one, other, join)

    def one(self, one, other, join):
        chart = join(Map(*one), Map(*other))
        plain = PlainMap(*parts_of(chart)) if len(chart.arrows()) <= 9 else None
        greatest, lots = greatest_excess(*parts_of(chart))
        self.assertEqual(worst(chart), greatest)
        self.assertEqual(greatest_lots(chart), lots)
        self.assertEqual(worst(chart), worst(Map(*one)) + worst(Map(*other)) + (join == beside))
        both = (len(ways(Map(*one))), len(ways(Map(*other))))
        self.assertEqual(len(ways(chart)), sum(both) if join == beside else both[0] * both[1])
        if plain is not None:
            self.assertEqual(ways(chart), plain.ways())
            self.assertEqual(len(longest(chart)), max(len(way) for way in plain.ways()))
            self.assertIn(longest(chart), plain.ways())

    def test_several_goals(self):
        for join in (behind, beside):
            for told in ((SEVERAL, BRIDGE), (BRIDGE, SEVERAL), (SEVERAL, SEVERAL)):
                with self.assertRaises(ManyGoals):
                    join(*told)

    def test_maps_stay_as_they_were(self):
        one, other = Map(*EXAMPLE), Map(*EXAMPLE)
        chart = behind(one, other)
        beside(chart, chart)
        self.assertTrue(one == Map(*EXAMPLE) and other == Map(*EXAMPLE))
        self.assertTrue(chart == behind(Map(*EXAMPLE), Map(*EXAMPLE)))
        self.assertFalse(chart == beside(one, other))


def loaded(chart, count):
    """The map with many places more, a line out of its goal, so that few places count."""
    places = range(chart.many(), chart.many() + count)
    line = tuple(zip((chart.goals()[0], *places), places))
    return Map(chart.many() + count, chart.arrows() + line, chart.goals())


class GreatMapTest(unittest.TestCase):
    """Joined maps beyond 40 places and 60 arrows, for functions of all stages."""

    def setUp(self):
        self.small = Map(*EXAMPLE)
        self.great = beside(loaded(self.small, 34), loaded(self.small, 33))
        self.line = self.small
        for _ in range(29):
            self.line = behind(self.line, self.small)
        self.bundle = beside(Map(2, ((0, 1),) * 60, (1,)), Map(2, ((0, 1),) * 59, (1,)))

    def test_they_are_great(self):
        self.assertEqual((self.great.many(), len(self.great.arrows())), (73, 79))
        self.assertEqual((self.line.many(), len(self.line.arrows())), (91, 180))
        self.assertEqual((self.bundle.many(), len(self.bundle.arrows())), (2, 119))
        with self.assertRaises(NoMap):
            Map(*parts_of(self.great))

    def test_standings(self):
        line = self.line
        self.assertEqual(alive(line, begin(line)), tuple(range(1, 91)))
        self.assertEqual(len(way_on(line, begin(line), 3)), 58)
        self.assertEqual(way_on(line, begin(line), 90), ())
        # Just the last arrows are left, and one of each.
        gone = tuple(range(0, 180, 6)) + tuple(range(4, 180, 6))
        self.assertTrue(is_world(line, tuple(sorted(gone))))
        standing = ((0, 2, 3), (0,))
        # Place 1 leads nowhere any more.
        self.assertEqual(worth(line, standing), (6, 7))
        self.assertEqual(tries(line, standing), (3, 6, 7))
        self.assertEqual(news(line, standing, 7, True), ((0, 2, 3, 5), (0,)))
        self.assertEqual(world_with(line, standing, 179, False), (0, 179))
        self.assertEqual(sure(line, ((0,), (0,))), (1,))
        self.assertEqual(dead_end(self.great, begin(self.great), 36), ((36, 37), ()))

    def test_runs_and_plans(self):
        for name in ("first", "last", "all", "near", "far"):
            def plan(standing):
                return sent_by(self.line, name, standing)

            lost, run = walk(self.line, (1, 4, 7, 10), plan)
            self.assertIsNone(run_fault(self.line, run))
            told = sorted(arrow for pairs in run for arrow, sound in pairs if not sound)
            self.assertEqual(run_standing(self.line, run)[1], tuple(told))
            self.assertEqual(lost, len(told))
            self.assertGreaterEqual(excess(run_part(self.line, run)), lost)
            self.assertEqual(late_walk(self.line, (1,), lambda here, sent: tuple(
                arrow for arrow in worth(self.line, here) if arrow not in sent
            ), 0)[0], 1)

    def test_lives(self):
        self.assertEqual(worst(self.great), 5)
        self.assertEqual(worst(self.great), greatest_excess(*parts_of(beside(self.small, self.small)))[0])
        self.assertIsNone(part_fault(self.great, part(self.great)))
        self.assertEqual(excess(part(self.great)), 5)
        self.assertEqual(on_ways(self.great), (0, 1, 2, 3, 4, 5, 40, 41, 42, 43, 44, 45))
        self.assertEqual(worst(turned(self.great)), 5)
        self.assertEqual(worst_among(self.great, 3), 3)
        self.assertEqual(left(self.great, begin(self.great)), 5)
        self.assertEqual(rest_map(self.great, begin(self.great))[1], (None, 1, 2, 3, 38, 39))
        few = beside(loaded(self.small, 34), loaded(BRIDGE, 34))
        rows = table(few)
        self.assertEqual((few.many(), rows[begin(few)]), (72, 3))
        self.assertIsNone(table_fault(few, 4, rows))
        self.assertEqual(table_fault(few, 3, rows), ("begin",))
        self.assertEqual(gifts(self.great, begin(self.great), 0), (0, 0))
        self.assertEqual(len(longest(self.great)), 3)
        self.assertEqual(worst(self.bundle), 118)
        foe = Foe(self.great, part(self.great), 2)
        self.assertEqual(foe.hear((0,)), (True,))
        lost, run, world = led_by_foe(self.bundle, part(self.bundle), lambda here: worth(self.bundle, here)[:1])
        self.assertEqual((lost, len(run), world), (118, 119, tuple(range(118))))
        self.assertEqual(sum(sum(row) for row in ledger(self.great, [((0, False), (40, True))])), 5 - left(
            self.great, ((0, 38), (0,))
        ))

    def test_too_many(self):
        for call in (worst, part, greatest_lots, on_ways, longest, table):
            with self.assertRaises(TooMany) as caught:
                call(self.line)
            self.assertEqual(caught.exception.most, 9)
        for call in (evenings, evening_table):
            with self.assertRaises(TooMany):
                call(self.great, 2)
        with self.assertRaises(TooMany):
            ways(self.line)
        self.assertEqual(evening_fault(self.great, 2, {}), ("begin",))
        self.assertEqual(met_by(self.bundle, [(0,), (118,)], 4), (0, 118))
        self.assertEqual(len(ways(self.bundle)), 119)
        with self.assertRaises(TooMany):
            ways_enough(self.bundle, 1)

    def test_later_stages(self):
        party = Party(self.bundle, tuple(range(118)))
        self.assertEqual(sum(party.send(tuple(range(119)))), 1)
        base = Base(self.great)
        self.assertEqual(base.left(), 5)
        base.add(0, 72)
        self.assertEqual(len(base.chart().arrows()), 80)
        base.strike(40)
        self.assertEqual(base.left(), 4)
        self.assertEqual(raises(self.great, 0), 1)
        self.assertEqual(lowers(self.great, 79 - 1), 0)
        self.assertEqual(stack_worst(("behind", (self.great, self.bundle), GREAT)), 123 * GREAT)
        near = lambda standing: sent_by(self.great, "near", standing)
        self.assertIsNone(judged(self.great, near))
        self.assertEqual((most_lost(self.great, near), refuted(self.great, 6, near)), (5, None))
        self.assertGreaterEqual(most_evenings(self.great, near), 6)


def built(stack):
    """The joined map of a stack of small numbers of times."""
    if isinstance(stack, Map):
        return stack
    word, stacks, times = stack
    join = {"behind": behind, "beside": beside}[word]
    maps = [built(one) for one in stacks] * times
    chart = maps[0]
    for other in maps[1:]:
        chart = join(chart, other)
    return chart


def some_stack(dice, maps, deep):
    if deep == 0 or dice.random() < 0.3:
        return dice.choice(maps)
    stacks = tuple(some_stack(dice, maps, deep - 1) for _ in range(dice.randint(1, 2)))
    return (dice.choice(("behind", "beside")), stacks, dice.randint(1, 2))


def deep_stack(word, chart, deep):
    return nested(deep + 1, lambda value: (word, (value,), GREAT) if value else chart)


class StackTest(unittest.TestCase):
    def test_against_the_joined_map(self):
        dice = random.Random(9)
        maps = [BRIDGE, Map(2, ((0, 1),) * 2, (1,)), Map(3, ((0, 2), (2, 1), (0, 1)), (1,)), Map(*EXAMPLE)]
        seen = 0
        while seen < 150:
            stack = some_stack(dice, maps, 3)
            chart = built(stack)
            count = stack_ways(stack, GREAT)
            if chart.many() <= 9 and count <= 500:
                seen += 1
                self.assertEqual(len(ways(chart)), count)
                self.assertEqual(stack_worst(stack), worst(chart))
                self.assertEqual(stack_longest(stack), len(longest(chart)))
                for modulus in (1, 2, 7, 10 ** 9, GREAT):
                    self.assertEqual(stack_ways(stack, modulus), count % modulus)

    def test_a_map_alone(self):
        for chart, plain in pairs_of_maps():
            if len(plain.goals) == 1:
                self.assertEqual(stack_worst(chart), worst(chart))
                self.assertEqual(stack_longest(chart), max(len(way) for way in plain.ways()))
                self.assertEqual(stack_ways(chart, GREAT), len(plain.ways()))
                self.assertEqual(stack_ways(chart, 1), 0)

    def test_as_deep_and_as_often_as_can_be(self):
        chart = Map(*EXAMPLE)
        many = GREAT ** 6
        stack = deep_stack("behind", chart, 6)
        self.assertEqual(stack_worst(stack), 2 * many)
        self.assertEqual(stack_longest(stack), 3 * many)
        stack = deep_stack("beside", chart, 6)
        self.assertEqual(stack_worst(stack), 3 * many - 1)
        self.assertEqual(stack_longest(stack), 3)
        for modulus in (1, 2, 3, 10 ** 9 + 7, GREAT - 1, GREAT):
            self.assertEqual(stack_ways(deep_stack("behind", chart, 6), modulus), pow(4, many, modulus))
            self.assertEqual(stack_ways(stack, modulus), 4 * many % modulus)

    def test_both_words_and_six_stacks(self):
        chart = Map(*EXAMPLE)
        row = ("beside", (chart, BRIDGE, chart, BRIDGE, BRIDGE, BRIDGE), 10)
        # 60 maps beside one another.
        self.assertEqual(stack_worst(row), 10 * 4 + 59)
        self.assertEqual(stack_longest(row), 3)
        self.assertEqual(stack_ways(row, GREAT), 120)
        line = ("behind", (row, BRIDGE), GREAT)
        self.assertEqual(stack_worst(line), 99 * GREAT)
        self.assertEqual(stack_longest(line), 4 * GREAT)
        self.assertEqual(stack_ways(line, 10 ** 9 + 7), pow(120, GREAT, 10 ** 9 + 7))
        self.assertEqual(stack_worst(("beside", (line,), 3)), 297 * GREAT + 2)

    def test_wide_stacks_that_share_their_maps(self):
        stack = nested(7, lambda value: ("beside", (value,) * 6, 1) if value else Map(*EXAMPLE))
        self.assertEqual(stack_worst(stack), 3 * 6 ** 6 - 1)
        self.assertEqual(stack_ways(stack, GREAT), 4 * 6 ** 6)

    def refused(self, thing):
        for call, more in ((stack_worst, ()), (stack_longest, ()), (stack_ways, (7,)), (stack_ways, (0,))):
            with self.assertRaises(NoStack):
                call(thing, *more)

    def test_what_is_no_stack(self):
        one = (BRIDGE,)
        wrong = [
            SEVERAL,
            ("behind", (BRIDGE, SEVERAL), 1),
            ["behind", one, 1],
            ("behind", [BRIDGE], 1),
            ("behind", (), 1),
            ("behind", one * 7, 1),
            ("behind", one, 0),
            ("behind", one, -1),
            ("behind", one, GREAT + 1),
            ("behind", one, True),
            ("behind", one, "1"),
            ("behind", one, None),
            ("behind", one, (1,)),
            ("Behind", one, 1),
            ("beside ", one, 1),
            ("b", one, 1),
            ("", one, 1),
            ("above", one, 1),
            (0, one, 1),
            (("behind",), one, 1),
            (None, one, 1),
            (BRIDGE, one, 1),
            ("behind", BRIDGE, 1),
            ("behind", one),
            ("behind", one, 1, 1),
            ("behind", 1, one),
            ("behind", (BRIDGE, 1), 1),
            ("behind", (one,), 1),
            ("behind", (("beside", (), 1),), 1),
            ("behind", (BRIDGE, ("beside", (BRIDGE,), 0)), 1),
            ("behind", "behind", 1),
            ("behind", {0: BRIDGE}, 1),
            one,
            Base(BRIDGE),
            ("behind", (Base(BRIDGE),), 1),
            deep_stack("behind", BRIDGE, 7),
            ("beside", (BRIDGE, deep_stack("behind", BRIDGE, 6)), 1),
            nested(30, lambda value: ("behind", (value,) * 6, 1)),
            nested(12, lambda value: ("beside", (value,) * 6, 1) if value else BRIDGE),
        ]
        for thing in wrong:
            self.refused(thing)
        for thing in odd_values():
            if not isinstance(thing, Map):
                self.refused(thing)
            self.refused(("behind", thing, 1))
            self.refused((thing, one, 1))
            self.refused(("beside", one, thing))

    def test_edges_that_are_stacks(self):
        for word in ("behind", "beside"):
            self.assertEqual(stack_ways((word, (BRIDGE,) * 6, 1), 7), 1 if word == "behind" else 6)
            self.assertEqual(stack_ways((word, (BRIDGE,), GREAT), GREAT), 1 if word == "behind" else 0)
            self.assertEqual(stack_worst(deep_stack(word, BRIDGE, 6)), 0 if word == "behind" else GREAT ** 6 - 1)

    def test_what_is_no_number(self):
        wrong = [0, -1, GREAT + 1, "7", (7,)] + odd_values()
        for modulus in wrong:
            with self.assertRaises(NoNumber):
                stack_ways(BRIDGE, modulus)
            with self.assertRaises(NoNumber):
                stack_ways(Map(2, ((0, 1),) * 60, (1,)), modulus)

    def test_too_many(self):
        for call in (stack_worst, stack_longest):
            self.assertEqual(call(("behind", (NINE, BRIDGE), 2)), 0 if call == stack_worst else 18)
            with self.assertRaises(TooMany) as caught:
                call(("behind", (BRIDGE, ("beside", (NINE, TEN), 1)), 2))
            self.assertEqual(caught.exception.most, 9)
            with self.assertRaises(NoStack):
                call(("behind", (TEN, SEVERAL), 1))
        self.assertEqual(stack_ways(("beside", (TEN, NINE), 5), 100), 10)

    def test_500_ways_and_501(self):
        arrows = ((0, 1),) * 20 + ((1, 2),) * 25
        right, wrong = Map(3, arrows, (2,)), Map(3, arrows + ((0, 2),), (2,))
        self.assertEqual(stack_ways(("behind", (right,), 3), GREAT), 500 ** 3)
        for modulus in (1, 501, GREAT):
            with self.assertRaises(TooMany) as caught:
                stack_ways(("behind", (right, ("beside", (BRIDGE, wrong), 1)), 1), modulus)
            self.assertEqual(caught.exception.most, 500)
        with self.assertRaises(NoNumber):
            stack_ways(wrong, 0)
        with self.assertRaises(NoStack):
            stack_ways(("behind", (wrong, SEVERAL), 1), 0)


class MoreOrLessTest(unittest.TestCase):
    def test_every_arrow_of_small_maps(self):
        maps = [plain for _, plain in pairs_of_maps()]
        rows = [(plain.many, plain.arrows, plain.goals) for plain in maps] + random_maps(4, 8, 25, 3) + random_maps(5, 12, 15, 3)
        for many, arrows, goals in rows:
            chart = Map(many, arrows, goals)
            for arrow in range(len(arrows)):
                greater = greatest_excess(many, (*arrows, arrows[arrow]), goals)[0]
                self.assertEqual(raises(chart, arrow), greater - worst(chart))
                self.lowered(chart, arrow)

    def lowered(self, chart, arrow):
        arrows = chart.arrows()[:arrow] + chart.arrows()[arrow + 1:]
        if is_world(chart, (arrow,)):
            self.assertEqual(lowers(chart, arrow), worst(chart) - worst(Map(chart.many(), arrows, chart.goals())))
        else:
            self.assertIsNone(lowers(chart, arrow))

    def test_some_in_full(self):
        chart = Map(*EXAMPLE)
        self.assertEqual([raises(chart, arrow) for arrow in range(6)], [1] * 6)
        self.assertEqual([lowers(chart, arrow) for arrow in range(6)], [1, 1, 0, 0, 1, 1])
        self.assertEqual((raises(BRIDGE, 0), lowers(BRIDGE, 0)), (1, None))
        # An arrow that lies on no way.
        chart = Map(3, ((0, 1), (0, 2), (1, 0)), (1,))
        self.assertEqual([raises(chart, arrow) for arrow in range(3)], [1, 0, 0])
        self.assertEqual([lowers(chart, arrow) for arrow in range(3)], [None, 0, 0])

    def test_as_many_arrows_as_a_map_has(self):
        chart = Map(2, ((0, 1),) * 60, (1,))
        self.assertEqual((raises(chart, 59), lowers(chart, 0)), (1, 1))

    def test_what_is_no_arrow(self):
        for chart in (Map(*EXAMPLE), TEN):
            for arrow in [len(chart.arrows()), -1, "0", (0,)] + odd_values():
                for call in (raises, lowers):
                    with self.assertRaises(NoArrow):
                        call(chart, arrow)

    def test_too_many_ahead_of_none(self):
        for call in (raises, lowers):
            for arrow in range(9):
                with self.assertRaises(TooMany) as caught:
                    call(TEN, arrow)
                self.assertEqual(caught.exception.most, 9)
        # Fewer places would count without the arrow.
        chart = Map(10, TEN.arrows() + ((0, 9),), (9,))
        with self.assertRaises(TooMany):
            lowers(chart, 0)
        self.assertIsNone(lowers(NINE, 3))
        self.assertEqual(raises(NINE, 3), 1)

    def test_several_goals(self):
        self.assertEqual((raises(SEVERAL, 0), lowers(SEVERAL, 1)), (1, None))
        chart = great_map(3, ((0, 1), (1, 2), (0, 2)), (1, 2))
        self.assertEqual([lowers(chart, arrow) for arrow in range(3)], [None, 1, 1])
