"""Promise [12]: the rest, what is left, and tables, against a plain search of the test's own."""

import unittest

from untriedways.errors import Done, NoNumber, NoStanding, TooMany
from untriedways.maps import Map, great_map
from untriedways.parts import worst
from untriedways.runs import Party
from untriedways.standings import begin, news, worth
from untriedways.tables import left, rest_map, table, table_fault
from tests.plain import PlainMap, greatest_excess
from tests.samples import CHOSEN, EXAMPLE, nested, odd_values, pairs_of_maps


def plain_rest(plain, standing):
    """The parts of the rest, its places and its arrows, by the words of the document."""
    reached, rotten = standing
    living = plain.alive(standing)
    places = (None, *living)
    arrows, kept = [], []
    for arrow, (tail, head) in enumerate(plain.arrows):
        if arrow not in rotten and (tail in reached or tail in living) and head in living:
            arrows.append((0 if tail in reached else places.index(tail), places.index(head)))
            kept.append(arrow)
    goals = tuple(places.index(goal) for goal in plain.goals if goal not in reached)
    return (len(places), tuple(arrows), goals), places, tuple(kept)


def plain_left(plain, standing):
    if plain.is_done(standing):
        return 0
    return greatest_excess(*plain_rest(plain, standing)[0])[0]


def plain_reached(plain):
    """All standings of a table."""
    found = {((0,), ())}
    layer = list(found)
    while layer:
        told = [plain.news(one, arrow, sound) for one in layer for arrow in plain.worth(one) for sound in (False, True)]
        layer = sorted({one for one in told if one is not None} - found)
        found.update(layer)
    return found


def plain_fault(plain, lives, rows):
    """The fault of a dict from standings to numbers, by the words of the document."""
    if rows.get(((0,), ()), lives) >= lives:
        return ("begin",)
    for standing in sorted(rows):
        for arrow in plain.worth(standing):
            for sound in (False, True):
                behind = plain.news(standing, arrow, sound)
                if behind is not None and behind not in rows:
                    return ("lacks", standing, arrow, sound)
                if behind is not None and rows[behind] > rows[standing] - (0 if sound else 1):
                    return ("falls", standing, arrow, sound)
    return None


class RestTest(unittest.TestCase):
    def test_at_every_standing(self):
        for chart, plain in pairs_of_maps():
            for standing in plain.standings():
                if plain.is_done(standing):
                    with self.assertRaises(Done):
                        rest_map(chart, standing)
                else:
                    parts, places, arrows = plain_rest(plain, standing)
                    told = rest_map(chart, standing)
                    self.assertIs(type(told), tuple)
                    self.assertTrue(told[0] == Map(*parts))
                    self.assertEqual(told[1:], (places, arrows))

    def test_no_arrow_back_to_the_start(self):
        chart = Map(4, ((0, 1), (1, 0), (1, 2), (2, 1), (2, 0), (2, 3), (0, 3), (3, 2)), (3,))
        rest, places, arrows = rest_map(chart, ((0, 1), (6,)))
        self.assertTrue(rest == Map(3, ((0, 1), (1, 2), (2, 1)), (2,)))
        self.assertEqual((places, arrows), ((None, 2, 3), (2, 5, 7)))

    def test_the_rest_of_a_rest(self):
        for parts in CHOSEN:
            chart, plain = Map(*parts), PlainMap(*parts)
            for standing in plain.standings():
                if not plain.is_done(standing):
                    self.one_rest(chart, standing)

    def one_rest(self, chart, standing):
        rest, places, arrows = rest_map(chart, standing)
        again, same, all_of_them = rest_map(rest, begin(rest))
        self.assertTrue(again == rest)
        self.assertEqual((same, all_of_them), ((None, *range(1, rest.many())), tuple(range(len(arrows)))))
        for arrow in worth(rest, begin(rest)):
            inner = news(rest, begin(rest), arrow, True)
            outer = news(chart, standing, arrows[arrow], True)
            self.assertEqual(left(rest, inner), left(chart, outer))
            if set(rest.goals()) - set(inner[0]):
                other, inside, over = rest_map(rest, inner)
                right = rest_map(chart, outer)
                self.assertTrue(other == right[0])
                self.assertEqual((None, *[places[place] for place in inside[1:]]), right[1])
                self.assertEqual(tuple(arrows[one] for one in over), right[2])

    def test_great_maps(self):
        arrows = tuple((place, place + 1) for place in range(79)) + ((0, 79),) * 80
        chart = great_map(80, arrows, (40, 79))
        standing = (tuple(range(73)), (79, 81))
        rest, places, kept = rest_map(chart, standing)
        self.assertEqual((rest.many(), len(rest.arrows()), rest.goals()), (8, 85, (7,)))
        self.assertEqual(places, (None, *range(73, 80)))
        self.assertEqual(kept, (*range(72, 79), 80, *range(82, 159)))
        self.assertEqual(left(chart, standing), 78)


class LeftTest(unittest.TestCase):
    def test_at_every_standing(self):
        for chart, plain in pairs_of_maps():
            for standing in plain.standings():
                self.assertEqual(left(chart, standing), plain_left(plain, standing))

    def test_at_the_begin_it_is_the_worst(self):
        for chart, _ in pairs_of_maps():
            self.assertEqual(left(chart, begin(chart)), worst(chart))

    def test_nine_places_count_and_ten_are_too_many(self):
        line = tuple((place, place + 1) for place in range(9))
        chart = Map(10, line, (9,))
        with self.assertRaises(TooMany) as caught:
            left(chart, begin(chart))
        self.assertEqual(caught.exception.most, 9)
        self.assertEqual(left(chart, ((0, 1), ())), 0)
        self.assertEqual(left(chart, (tuple(range(10)), ())), 0)
        # They are counted in the rest: the place that only leads back is not there.
        chart = Map(10, line[:8] + ((0, 9), (9, 0)), (8,))
        self.assertEqual(left(chart, begin(chart)), 0)
        with self.assertRaises(TooMany):
            worst(chart)

    def test_no_standing(self):
        chart = Map(*EXAMPLE)
        for value in odd_values() + [((0, 3), ()), ((0,), (0, 1)), ([0], ()), ((0,), (2,)), ((False,), ())]:
            for call in (rest_map, left):
                with self.assertRaises(NoStanding):
                    call(chart, value)


class TableTest(unittest.TestCase):
    def test_small_maps(self):
        for chart, plain in pairs_of_maps():
            rows = table(chart)
            self.assertEqual(set(rows), plain_reached(plain))
            for standing in rows:
                self.assertEqual(rows[standing], plain_left(plain, standing))
            self.assertIsNone(table_fault(chart, worst(chart) + 1, rows))
            self.assertIsNone(table_fault(chart, worst(chart) + 2, rows))
            if worst(chart) > 0:
                self.assertEqual(table_fault(chart, worst(chart), rows), ("begin",))

    def test_a_greater_map_against_what_is_left(self):
        chart = Map(5, ((0, 1), (0, 2), (1, 2), (2, 1), (1, 3), (3, 2), (2, 4), (3, 4)), (4,))
        rows = table(chart)
        self.assertGreater(len(rows), 100)
        for standing in rows:
            self.assertEqual(rows[standing], left(chart, standing))

    def test_2000_standings_and_one_more(self):
        most = ((0, 1), (0, 2), (1, 2), (1, 2), (1, 2), (2, 3), (2, 3), (2, 3), (2, 3), (2, 3), (1, 3))
        chart = Map(4, most, (1, 2, 3))
        rows = table(chart)
        self.assertEqual(len(rows), 2000)
        self.assertEqual(set(rows), plain_reached(PlainMap(4, most, (1, 2, 3))))
        self.assertIsNone(table_fault(chart, worst(chart) + 1, rows))
        more = ((0, 2),) * 4 + ((0, 3),) * 2 + ((2, 3),) * 4
        self.assertEqual(len(plain_reached(PlainMap(4, more, (3,)))), 2001)
        self.too_many(Map(4, more, (3,)), 2000)
        self.too_many(Map(2, ((0, 1),) * 60, (1,)), 2000)

    def too_many(self, chart, most):
        with self.assertRaises(TooMany) as caught:
            table(chart)
        self.assertEqual(caught.exception.most, most)

    def test_places_are_counted_ahead_of_standings(self):
        line = tuple((place, place + 1) for place in range(9))
        self.assertEqual(len(table(Map(9, line[:8], (8,)))), 9)
        self.too_many(Map(10, line, (9,)), 9)
        self.too_many(Map(10, line + ((0, 1),) * 40, (9,)), 9)
        # As [10] counts them, the one that leads back to the start among them.
        self.too_many(Map(10, line[:8] + ((0, 9), (9, 0)), (8,)), 9)

    def test_sixty_arrows(self):
        chart = Map(40, ((0, 1),) * 3 + tuple((1, place) for place in range(2, 40)), (1,))
        self.assertEqual(len(table(chart)), 14)


class TableFaultTest(unittest.TestCase):
    def judged(self, chart, plain, lives, rows):
        before = dict(rows)
        fault = plain_fault(plain, lives, rows)
        self.assertEqual(table_fault(chart, lives, rows), fault)
        self.assertEqual(rows, before)
        return fault and fault[0]

    def test_one_number_changed_or_one_key_left_out(self):
        told = set()
        for parts in CHOSEN:
            chart, plain = Map(*parts), PlainMap(*parts)
            rows = table(chart)
            lives = worst(chart) + 1
            for standing in rows:
                for number in (0, rows[standing] + 1, max(0, rows[standing] - 1), 10 ** 5000):
                    told.add(self.judged(chart, plain, lives, {**rows, standing: number}))
                told.add(self.judged(chart, plain, lives, {key: rows[key] for key in rows if key != standing}))
        self.assertEqual(told, {None, "begin", "lacks", "falls"})

    def test_more_keys(self):
        for parts in CHOSEN[:6]:
            chart, plain = Map(*parts), PlainMap(*parts)
            rows = table(chart)
            for standing in plain.standings():
                for number in (0, 1, 5):
                    self.judged(chart, plain, worst(chart) + 1, {standing: number, **rows})
            every = {standing: left(chart, standing) for standing in plain.standings()}
            self.assertIsNone(table_fault(chart, worst(chart) + 1, every))

    def test_two_faults_the_first_one_told(self):
        chart, plain = Map(*EXAMPLE), PlainMap(*EXAMPLE)
        rows = table(chart)
        keys = sorted(rows)
        for one in keys[::7]:
            for other in keys[::5]:
                less = {key: rows[key] for key in rows if key != one}
                self.judged(chart, plain, 3, {**less, other: 0})
                self.judged(chart, plain, 3, {**less, other: 1})
        self.assertEqual(table_fault(chart, 1, {}), ("begin",))
        self.assertEqual(table_fault(chart, 1, {((0, 3), ()): 5}), ("form",))
        self.assertEqual(table_fault(chart, 9, {begin(chart): 8}), ("lacks", begin(chart), 0, False))
        less = {key: rows[key] for key in rows if key != ((0,), (0,))}
        self.assertEqual(table_fault(chart, 3, {**less, ((0, 1), ()): 5}), ("lacks", begin(chart), 0, False))
        more = {**less, ((0,), (0,)): 2, ((0, 1), ()): 5}
        self.assertEqual(table_fault(chart, 3, more), ("falls", begin(chart), 0, False))
        more[((0,), (0,))] = 1
        self.assertEqual(table_fault(chart, 3, more), ("falls", begin(chart), 0, True))

    def test_form(self):
        chart = Map(*EXAMPLE)
        rows = table(chart)
        wrong = [
            {**rows, begin(chart): True},
            {**rows, begin(chart): -1},
            {**rows, begin(chart): None},
            {**rows, begin(chart): "2"},
            {**rows, begin(chart): (2,)},
            {**rows, begin(chart): [2]},
            {**rows, begin(chart): {2: 2}},
            {**rows, begin(chart): Map(*EXAMPLE)},
            {**rows, ((0, 3), ()): 1},
            {**rows, ((0,), (0, 1)): 1},
            # A dict keeps the first one of keys that are equal.
            {((0, True), ()): 1, **rows},
            {((False,), ()): 1, **rows},
            {**rows, 0: 1},
            {**rows, None: 1},
            {**rows, "((0,), ())": 1},
            {**rows, (): 1},
            {**rows, ((0,), (), ()): 1},
            {**rows, nested(30, lambda value: (value,)): 1},
            {**rows, Party(chart, ()): 1},
            {**rows, NoStanding(): 1},
            list(rows),
            list(rows.items()),
            tuple(rows.items()),
        ]
        for value in wrong + [value for value in odd_values() if value != {}]:
            self.assertEqual(table_fault(chart, 3, value), ("form",))
        self.assertEqual(table_fault(chart, 3, {}), ("begin",))

    def test_no_number_ahead_of_all(self):
        chart = Map(*EXAMPLE)
        for lives in [value for value in odd_values() if value != 10 ** 5000] + [0, (1,), "1"]:
            for value in (table(chart), None, {}):
                with self.assertRaises(NoNumber):
                    table_fault(chart, lives, value)
        self.assertIsNone(table_fault(chart, 10 ** 5000, table(chart)))

    def test_a_map_of_any_size_is_judged(self):
        line = tuple((place, place + 1) for place in range(39))
        chart = Map(40, line, (39,))
        rows = {(tuple(range(many)), ()): 0 for many in range(1, 41)}
        self.assertIsNone(table_fault(chart, 1, rows))
        del rows[(tuple(range(20)), ())]
        self.assertEqual(table_fault(chart, 1, rows), ("lacks", (tuple(range(19)), ()), 18, True))
