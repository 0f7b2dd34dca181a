"""Promise [14]: the longest way, and how many evenings it takes, against a plain search."""

import unittest

from untriedways.errors import NoNumber, TooMany
from untriedways.evenings import evening_fault, evening_table, evenings, longest
from untriedways.maps import Map, great_map
from untriedways.plans import sent_by, walk
from untriedways.runs import Party
from untriedways.standings import begin, worth
from tests.plain import PlainMap
from tests.samples import CHOSEN, EXAMPLE, nested, odd_values, pairs_of_maps
from tests.test_parts import random_maps


def plain_evenings(plain, people, standing, known):
    """The least number of evenings, over all lots of tries and all answers."""
    if plain.is_done(standing):
        return 0
    if standing not in known:
        known[standing] = min(
            1 + max(plain_evenings(plain, people, behind, known) for _, behind in plain.possible(standing, lot))
            for lot in plain.crowds(standing)
            if len(lot) <= people
        )
    return known[standing]


def plain_fault(plain, people, rows):
    """The fault of a dict of the right form, by the words of the document."""
    if ((0,), ()) not in rows:
        return ("begin",)
    for standing in sorted(rows):
        _, lot = rows[standing]
        if not 1 <= len(lot) <= people or not set(lot) <= set(plain.tries(standing)):
            return ("lot", standing)
    for standing in sorted(rows):
        number, lot = rows[standing]
        for _, behind in plain.possible(standing, lot):
            if not plain.is_done(behind) and (behind not in rows or rows[behind][0] >= number):
                return ("falls", standing)
    return None


class LongestTest(unittest.TestCase):
    def test_against_all_ways(self):
        maps = [(chart, plain) for chart, plain in pairs_of_maps()]
        for many, size in ((4, 7), (5, 9), (6, 9)):
            maps += [(Map(*parts), PlainMap(*parts)) for parts in random_maps(many, size, 30, many * size)]
        for chart, plain in maps:
            ways = plain.ways()
            told = longest(chart)
            self.assertIn(told, ways)
            self.assertEqual(len(told), max(len(way) for way in ways))

    def test_all_that_is_worth_it_needs_no_more_evenings(self):
        for chart, plain in pairs_of_maps():
            needed = [len(walk(chart, world, lambda one: sent_by(chart, "all", one))[1]) for world in plain.worlds]
            self.assertLessEqual(max(needed), len(longest(chart)))
            if len(plain.goals) == 1:
                self.assertEqual(max(needed), len(longest(chart)))

    def test_nine_places_count_and_ten_are_too_many(self):
        line = tuple((place, place + 1) for place in range(9))
        dead = tuple((place, place + 1) for place in range(9, 39))
        self.assertEqual(longest(Map(40, line[:8] + dead + ((8, 9), (0, 8)), (8,))), tuple(range(8)))
        for chart in (Map(10, line, (9,)), Map(10, line[:8] + ((0, 9), (9, 0)), (8,)), great_map(99, line, (9,))):
            with self.assertRaises(TooMany) as caught:
                longest(chart)
            self.assertEqual(caught.exception.most, 9)

    def test_parallel_arrows_and_passed_goals(self):
        chart = Map(3, ((0, 1), (0, 1), (1, 2), (1, 2), (2, 1)), (1, 2))
        self.assertEqual(len(longest(chart)), 2)
        self.assertEqual(longest(Map(2, ((0, 1), (1, 0)), (1,))), (0,))


class EveningsTest(unittest.TestCase):
    def test_small_maps_for_all_numbers_of_people(self):
        for chart, plain in pairs_of_maps():
            for people in range(1, 10):
                right = plain_evenings(plain, people, begin(chart), {})
                self.assertEqual(evenings(chart, people), right)
                rows = evening_table(chart, people)
                self.assertIsNone(evening_fault(chart, people, rows))
                self.assertIsNone(plain_fault(plain, people, rows))
                self.assertEqual(rows[begin(chart)][0], right)

    def test_greater_maps(self):
        for many, size, count in ((3, 6, 8), (4, 6, 8), (4, 7, 4)):
            for parts in random_maps(many, size, count, many + 10 * size):
                chart, plain = Map(*parts), PlainMap(*parts)
                for people in (1, 2, 3, 5):
                    self.assertEqual(evenings(chart, people), plain_evenings(plain, people, begin(chart), {}))

    def test_led_by_the_table_in_every_world(self):
        for parts in CHOSEN:
            chart, plain = Map(*parts), PlainMap(*parts)
            for people in (1, 2, 3, 9):
                rows = evening_table(chart, people)
                self.assertFalse(any(plain.is_done(standing) for standing in rows))
                for world in plain.worlds:
                    party = Party(chart, world)
                    while not plain.is_done(party.standing()):
                        number, lot = rows[party.standing()]
                        self.assertLessEqual(number + party.evenings(), rows[begin(chart)][0])
                        self.assertLessEqual(len(lot), people)
                        party.send(lot)
                    self.assertLessEqual(party.evenings(), evenings(chart, people))

    def test_by_hand(self):
        nine = Map(2, ((0, 1),) * 9, (1,))
        self.assertEqual([evenings(nine, people) for people in range(1, 10)], [9, 5, 3, 3, 2, 2, 2, 2, 1])
        chart = Map(*EXAMPLE)
        self.assertEqual([evenings(chart, people) for people in (1, 2, 9)], [5, 3, 3])
        self.assertEqual(evening_table(Map(2, ((0, 1),), (1,)), 4), {((0,), ()): (1, (0,))})

    def test_no_number_ahead_of_too_many(self):
        small = Map(*EXAMPLE)
        great = Map(2, ((0, 1),) * 10, (1,))
        for people in odd_values() + [0, 10, (1,), "1"]:
            for chart in (small, great):
                for call in (evenings, evening_table):
                    with self.assertRaises(NoNumber):
                        call(chart, people)
                for value in ({}, None):
                    with self.assertRaises(NoNumber):
                        evening_fault(chart, people, value)
        for people in (1, 9):
            for call in (evenings, evening_table):
                with self.assertRaises(TooMany) as caught:
                    call(great, people)
                self.assertEqual(caught.exception.most, 9)

    def test_many_places_are_no_matter(self):
        chart = great_map(90, tuple((place, place + 1) for place in range(50, 55)) + ((0, 50), (0, 55)), (55,))
        self.assertEqual((evenings(chart, 1), evenings(chart, 2)), (7, 6))
        self.assertIsNone(evening_fault(chart, 2, evening_table(chart, 2)))


class EveningFaultTest(unittest.TestCase):
    def judged(self, chart, plain, people, rows):
        fault = plain_fault(plain, people, rows)
        self.assertEqual(evening_fault(chart, people, rows), fault)
        return fault and fault[0]

    def test_one_thing_changed(self):
        told = set()
        for parts in CHOSEN:
            chart, plain = Map(*parts), PlainMap(*parts)
            for people in (1, 2, 9):
                rows = evening_table(chart, people)
                for key in rows:
                    number, lot = rows[key]
                    for row in ((number + 1, lot), (1, lot), (number, lot[1:]), (number, (*lot, 10 ** 5000))):
                        told.add(self.judged(chart, plain, people, {**rows, key: row}))
                    for other in plain.crowds(key) + [(0,), (5,)]:
                        told.add(self.judged(chart, plain, people, {**rows, key: (number, other)}))
                    told.add(self.judged(chart, plain, people, {one: rows[one] for one in rows if one != key}))
                told.add(self.judged(chart, plain, people, rows))
        self.assertEqual(told, {None, "begin", "lot", "falls"})

    def test_more_keys(self):
        chart, plain = Map(*EXAMPLE), PlainMap(*EXAMPLE)
        rows = evening_table(chart, 2)
        for standing in plain.standings():
            if not plain.is_done(standing) and standing not in rows:
                for row in ((1, ()), (9, plain.tries(standing)[:1]), (9, plain.tries(standing))):
                    self.judged(chart, plain, 2, {standing: row, **rows})

    def test_form(self):
        chart = Map(*EXAMPLE)
        rows = evening_table(chart, 2)
        first = begin(chart)
        wrong = [
            {**rows, first: [3, (0, 1)]},
            {**rows, first: (3, [0, 1])},
            {**rows, first: (3, (1, 0))},
            {**rows, first: (3, (0, 0))},
            {**rows, first: (3, (-1, 0))},
            {**rows, first: (3, (0, True))},
            {**rows, first: (3, (False,))},
            {**rows, first: (3, (0, "1"))},
            {**rows, first: (3, (0, None))},
            {**rows, first: (3, (0, [1]))},
            {**rows, first: (3, None)},
            {**rows, first: (0, (0, 1))},
            {**rows, first: (-3, (0, 1))},
            {**rows, first: (True, (0, 1))},
            {**rows, first: (None, (0, 1))},
            {**rows, first: (3,)},
            {**rows, first: (3, (0, 1), ())},
            {**rows, first: 3},
            {**rows, first: nested(29, lambda value: (value, value))},
            {**rows, first: Map(*EXAMPLE)},
            {**rows, ((0, 1, 3), ()): (3, ())},
            {**rows, ((0, 3), ()): (3, ())},
            {((0, True), ()): (3, (4,)), **rows},
            {**rows, 0: (1, (0,))},
            {**rows, None: (1, (0,))},
            {**rows, (): (1, (0,))},
            {**rows, Party(chart, ()): (1, (0,))},
            list(rows.items()),
            tuple(rows),
        ]
        for value in wrong + [value for value in odd_values() if value != {}]:
            self.assertEqual(evening_fault(chart, 2, value), ("form",))
        self.assertEqual(evening_fault(chart, 2, {}), ("begin",))

    def test_each_fault_alone_and_two_at_once(self):
        chart = Map(2, ((0, 1),) * 3, (1,))
        first, second, third = ((0,), ()), ((0,), (0,)), ((0,), (0, 1))
        rows = {first: (3, (0,)), second: (2, (1,)), third: (1, (2,))}
        for people in (1, 9):
            self.assertIsNone(evening_fault(chart, people, rows))
        self.assertEqual(evening_fault(chart, 1, {**rows, first: (3, (0, 1))}), ("lot", first))
        self.assertIsNone(evening_fault(chart, 2, {**rows, first: (3, (0, 1))}))
        self.assertEqual(evening_fault(chart, 1, {**rows, third: (1, ())}), ("lot", third))
        self.assertEqual(evening_fault(chart, 1, {**rows, second: (2, (0,))}), ("lot", second))
        self.assertEqual(evening_fault(chart, 1, {**rows, second: (2, (3,))}), ("lot", second))
        self.assertEqual(evening_fault(chart, 1, {**rows, first: (2, (0,))}), ("falls", first))
        self.assertEqual(evening_fault(chart, 1, {**rows, third: (2, (2,))}), ("falls", second))
        self.assertEqual(evening_fault(chart, 1, {**rows, second: (2, (2,))}), ("falls", second))
        # All lots ahead of all that does not fall; the begin ahead of these, the form of all ahead of it.
        self.assertEqual(evening_fault(chart, 1, {first: (3, (0,)), third: (1, ())}), ("lot", third))
        self.assertEqual(evening_fault(chart, 1, {second: (1, ())}), ("begin",))
        self.assertEqual(evening_fault(chart, 1, {second: (1, ()), third: (0, ())}), ("form",))
        self.assertEqual(evening_fault(chart, 1, {first: (1, (0,)), second: (1, (1,))}), ("falls", first))
        self.assertEqual(evening_fault(chart, 1, {**rows, first: (3, ()), second: (2, ())}), ("lot", first))

    def test_a_map_of_any_size_is_judged(self):
        chart = Map(2, ((0, 1),) * 60, (1,))
        rows, rotten = {}, ()
        for k in range(7):
            rows[((0,), rotten)] = (7 - k, worth(chart, ((0,), rotten))[:9])
            rotten = (*rotten, *range(9 * k, 9 * k + 9))
        self.assertIsNone(evening_fault(chart, 9, rows))
        self.assertEqual(evening_fault(chart, 8, rows), ("lot", begin(chart)))
        rows[((0,), tuple(range(9)))] = (7, (9,))
        self.assertEqual(evening_fault(chart, 9, rows), ("falls", begin(chart)))
