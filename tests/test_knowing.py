"""Promise [18]: facts, and the plans that make use of them, against a plain search."""

import random
import unittest
from itertools import combinations

from untriedways.errors import NoFacts, NoNumber, NoWorlds, TooMany
from untriedways.knowing import facts_needed, lives_with, plan_fault, plan_with
from untriedways.maps import Map, great_map
from untriedways.parts import worst
from untriedways.runs import Party
from untriedways.standings import begin
from tests.plain import PlainMap
from tests.samples import CHOSEN, EXAMPLE, nested, odd_values, pairs_of_maps
from tests.test_parts import random_maps

FIRST = (((0,), ()), ())
TEN = Map(2, ((0, 1),) * 10, (1,))


def fitting(plain, facts):
    """The worlds in which of each clause at least one pair holds."""
    return [
        world
        for world in plain.worlds
        if all(any((arrow not in world) == sound for arrow, sound in clause) for clause in facts)
    ]


def plain_lost(plain, worlds, standing):
    """The least number of lives that are lost at the most in these worlds."""
    if plain.is_done(standing):
        return 0
    found = []
    for arrow in plain.tries(standing):
        lost = [world for world in worlds if arrow in world]
        kept = [world for world in worlds if arrow not in world]
        numbers = [1 + plain_lost(plain, lost, plain.news(standing, arrow, False))] if lost else []
        numbers += [plain_lost(plain, kept, plain.news(standing, arrow, True))] if kept else []
        found.append(max(numbers))
    return min(found)


def agreeing(worlds, knowledge):
    """Those of the worlds that have these arrows sound and those rotten."""
    (_, rotten), sound = knowledge
    return [world for world in worlds if set(rotten) <= set(world) and not set(sound) & set(world)]


def behind(plain, key, arrow, sound):
    """The knowledge behind the answer."""
    standing = plain.behind(key[0], ((arrow, sound),))
    return (standing, tuple(sorted((*key[1], arrow))) if sound else key[1])


def plain_fault(plain, worlds, lives, rows):
    """The fault of a dict of the right form, by the words of the document."""
    if FIRST not in rows or rows[FIRST][0] >= lives:
        return ("begin",)
    for key in sorted(rows):
        number, arrow = rows[key]
        for sound in (False, True):
            told = [world for world in agreeing(worlds, key) if (arrow not in world) == sound]
            if told:
                there = behind(plain, key, arrow, sound)
                if not plain.is_done(there[0]):
                    if there not in rows or rows[there][0] > number - (0 if sound else 1):
                        return ("falls", key, sound)
    return None


def knowledges(plain, worlds):
    """All knowledges, by trying all standings with all lots of arrows."""
    for standing in plain.standings():
        inner = [arrow for arrow, (_, head) in enumerate(plain.arrows) if head in standing[0]]
        for size in range(len(inner) + 1):
            for sound in combinations(inner, size):
                if agreeing(worlds, (standing, sound)):
                    yield (standing, sound)


def random_facts(dice, many, size):
    """Some clauses, of one or more pairs each, perhaps the same pair twice."""
    return tuple(
        tuple((dice.randrange(many), dice.random() < 0.5) for _ in range(dice.randint(1, 3)))
        for _ in range(size)
    )


def cases(seed, most):
    """Maps with facts that some world fits: the map, the plain one, the facts, the worlds."""
    dice = random.Random(seed)
    maps = pairs_of_maps()
    maps += [(Map(*parts), PlainMap(*parts)) for parts in random_maps(4, 6, 10, seed) + random_maps(4, 7, 5, seed)]
    for chart, plain in maps:
        for size in range(most + 1):
            facts = random_facts(dice, len(plain.arrows), size)
            worlds = fitting(plain, facts)
            if worlds:
                yield chart, plain, facts, worlds


class LivesTest(unittest.TestCase):
    def test_against_a_plain_search(self):
        for chart, plain, facts, worlds in cases(1, 4):
            self.assertEqual(lives_with(chart, facts), 1 + plain_lost(plain, worlds, begin(chart)))

    def test_without_facts_it_is_the_worst_and_one(self):
        for chart, _ in pairs_of_maps():
            self.assertEqual(lives_with(chart, ()), worst(chart) + 1)
        for parts in random_maps(4, 9, 8, 1) + random_maps(5, 9, 8, 2):
            self.assertEqual(lives_with(Map(*parts), ()), worst(Map(*parts)) + 1)

    def test_by_hand(self):
        chart = Map(2, ((0, 1),) * 3, (1,))
        self.assertEqual(lives_with(chart, ()), 3)
        self.assertEqual(lives_with(chart, (((1, True),),)), 1)
        self.assertEqual(lives_with(chart, (((1, False),),)), 2)
        self.assertEqual(lives_with(chart, (((1, True), (2, True)),)), 2)
        # A try that is not worth it tells which of two arrows is sound.
        chart = Map(4, ((0, 1), (0, 1), (0, 1), (0, 2)), (1,))
        facts = (((3, True), (0, True)), ((3, False), (1, True)), ((3, True),))
        self.assertEqual(lives_with(chart, facts), 1)

    def test_a_try_that_is_not_worth_it_tells_something(self):
        # Four arrows, one of which is sound; the dead ones tell which of two halves it is in.
        chart = Map(4, ((0, 1),) * 4 + ((0, 2), (2, 3)), (1,))
        facts = (((4, True), (0, True), (1, True)), ((4, False), (2, True), (3, True)))
        right = 1 + plain_lost(PlainMap(4, chart.arrows(), (1,)), fitting(PlainMap(4, chart.arrows(), (1,)), facts), FIRST[0])
        self.assertEqual(lives_with(chart, facts), right)
        self.assertEqual(lives_with(chart, ()), 4)

    def test_clauses_twice_and_pairs_twice(self):
        chart = Map(*EXAMPLE)
        clause = ((0, False), (0, False))
        self.assertEqual(lives_with(chart, (clause, clause)), lives_with(chart, (((0, False),),)))
        self.assertEqual(lives_with(chart, (((0, False), (0, True)),)), 3)

    def test_many_places_are_no_matter(self):
        chart = great_map(99, ((0, 98), (0, 98), (0, 50)), (98,))
        self.assertEqual(lives_with(chart, (((2, False), (0, False)),)), 2)
        self.assertEqual(lives_with(chart, (((0, False),),)), 1)


class RefusedTest(unittest.TestCase):
    CALLS = [(lives_with, ()), (plan_with, ()), (plan_fault, (1, {})), (plan_fault, (0, None)), (facts_needed, ())]

    def test_no_facts_ahead_of_all(self):
        right = ((0, True), (1, False))
        wrong = [
            [right],
            (list(right),),
            (([0, True], (1, False)),),
            ((),),
            (right, ()),
            (((0, 1),),),
            (((0, None),),),
            (((True, True),),),
            (((0, True, False),),),
            (((0,),),),
            ((0, True),),
            (((-1, True),),),
            (((10, True),),),
            (((10 ** 5000, True),),),
            ((("0", True),),),
            (right, ((0, True), None)),
            (right, nested(29, lambda value: (value, value))),
            ({0: True},),
            (right, {0: True}),
            (((0, Map(*EXAMPLE)),),),
            ((Map(*EXAMPLE),),),
            ((),) * 6,
        ]
        for chart in (Map(2, ((0, 1),) * 3, (1,)), TEN):
            for value in wrong + odd_values():
                for call, told in self.CALLS:
                    with self.assertRaises(NoFacts):
                        call(chart, value, *told)

    def test_too_many_arrows_then_no_worlds(self):
        lost = tuple(((arrow, False),) for arrow in range(2))
        both = Map(2, ((0, 1),) * 2, (1,))
        nothing = (((0, True),), ((0, False),))
        for call, told in self.CALLS[:3]:
            with self.assertRaises(TooMany) as caught:
                call(TEN, nothing, *told)
            self.assertEqual(caught.exception.most, 9)
            for facts in (lost, nothing):
                with self.assertRaises(NoWorlds):
                    call(both, facts, *told)
        for facts in (lost, nothing):
            with self.assertRaises(NoWorlds):
                facts_needed(both, facts)

    def test_no_number_ahead_of_too_many(self):
        nothing = (((0, True),), ((0, False),))
        for lives in [value for value in odd_values() if value != 10 ** 5000] + [0, (1,), "1"]:
            for chart, facts in ((TEN, ()), (Map(*EXAMPLE), ()), (Map(*EXAMPLE), nothing)):
                with self.assertRaises(NoNumber):
                    plan_fault(chart, facts, lives, {})

    def test_too_many_clauses_right_behind_no_facts(self):
        clause = ((0, True),)
        for facts in ((clause,) * 6, (clause,) * 5 + (((0, False),),)):
            for chart in (TEN, Map(*EXAMPLE)):
                with self.assertRaises(TooMany) as caught:
                    facts_needed(chart, facts)
                self.assertEqual(caught.exception.most, 5)
        with self.assertRaises(TooMany) as caught:
            facts_needed(TEN, (clause,) * 4 + (((0, False),),))
        self.assertEqual(caught.exception.most, 9)
        self.assertEqual(lives_with(Map(*EXAMPLE), (clause,) * 600), 3)


class PlanTest(unittest.TestCase):
    def test_it_has_no_fault_and_leads_home(self):
        for chart, plain, facts, worlds in cases(2, 3):
            lives = lives_with(chart, facts)
            rows = plan_with(chart, facts)
            self.assertEqual(rows[FIRST][0], lives - 1)
            self.assertIsNone(plan_fault(chart, facts, lives, rows))
            self.assertIsNone(plan_fault(chart, facts, lives + 1, rows))
            self.assertIsNone(plain_fault(plain, worlds, lives, rows))
            if lives > 1:
                self.assertEqual(plan_fault(chart, facts, lives - 1, rows), ("begin",))
            for world in worlds:
                self.led_home(chart, plain, rows, world, lives)

    def led_home(self, chart, plain, rows, world, lives):
        party = Party(chart, world)
        key = FIRST
        while not plain.is_done(party.standing()):
            number, arrow = rows[key]
            self.assertLessEqual(party.lost() + number, lives - 1)
            (sound,) = party.send((arrow,))
            key = (party.standing(), tuple(sorted((*key[1], arrow))) if sound else key[1])
        self.assertLess(party.lost(), lives)

    def test_by_hand(self):
        chart = Map(2, ((0, 1),) * 2, (1,))
        self.assertEqual(plan_with(chart, (((1, True),),)), {FIRST: (0, 1)})
        rows = plan_with(chart, ())
        self.assertEqual(rows, {FIRST: (1, 0), (((0,), (0,)), ()): (0, 1)})


class PlanFaultTest(unittest.TestCase):
    def judged(self, chart, plain, facts, worlds, lives, rows):
        fault = plain_fault(plain, worlds, lives, rows)
        self.assertEqual(plan_fault(chart, facts, lives, rows), fault)
        return fault and fault[0]

    def test_one_thing_changed(self):
        told = set()
        for chart, plain, facts, worlds in cases(3, 2):
            lives = lives_with(chart, facts)
            rows = plan_with(chart, facts)
            for key in rows:
                number, arrow = rows[key]
                for row in ((number + 1, arrow), (0, arrow), (max(0, number - 1), arrow)):
                    told.add(self.judged(chart, plain, facts, worlds, lives, {**rows, key: row}))
                for other in plain.tries(key[0]):
                    told.add(self.judged(chart, plain, facts, worlds, lives, {**rows, key: (number, other)}))
                less = {one: rows[one] for one in rows if one != key}
                told.add(self.judged(chart, plain, facts, worlds, lives, less))
                self.judged(chart, plain, facts, worlds, 9, {**less, FIRST: (8, arrow if key == FIRST else rows[FIRST][1])})
        self.assertEqual(told, {None, "begin", "falls"})

    def test_any_knowledges_as_keys(self):
        dice = random.Random(5)
        chart, plain = Map(*EXAMPLE), PlainMap(*EXAMPLE)
        for facts in ((), (((0, False), (4, False)),), (((1, True),), ((5, False), (2, True)))):
            worlds = fitting(plain, facts)
            every = list(knowledges(plain, worlds))
            keys = [key for key in every if not plain.is_done(key[0])]
            for _ in range(30):
                chosen = dice.sample(keys, 25) + [FIRST]
                rows = {key: (dice.randint(0, 3), dice.choice(plain.tries(key[0]))) for key in chosen}
                rows[FIRST] = (2, rows[FIRST][1])
                self.judged(chart, plain, facts, worlds, 3, rows)
            rows = plan_with(chart, facts)
            for key in keys:
                full = {key: (0, plain.tries(key[0])[0]), **rows}
                self.judged(chart, plain, facts, worlds, 3, full)
            done = [key for key in every if plain.is_done(key[0])]
            for key in done[:20]:
                self.assertEqual(plan_fault(chart, facts, 3, {key: (0, 0), **rows}), ("form",))

    def test_exactly_the_knowledges_are_keys(self):
        for parts in CHOSEN[2:6]:
            chart, plain = Map(*parts), PlainMap(*parts)
            for facts in ((), (((0, False), (1, False)),)):
                worlds = fitting(plain, facts)
                right = set(knowledges(plain, worlds))
                rows = plan_with(chart, facts)
                for standing in plain.standings():
                    for size in range(len(plain.arrows) + 1):
                        for sound in combinations(range(len(plain.arrows)), size):
                            key = (standing, sound)
                            tried = plain.tries(standing)
                            if not plain.is_done(standing) and key not in rows and tried:
                                fault = plan_fault(chart, facts, 9, {**rows, key: (7, tried[0])})
                                self.assertEqual(fault == ("form",), key not in right)

    def test_form(self):
        chart = Map(*EXAMPLE)
        rows = plan_with(chart, ())
        number, arrow = rows[FIRST]
        wrong = [
            {**rows, FIRST: [number, arrow]},
            {**rows, FIRST: (number,)},
            {**rows, FIRST: (number, arrow, 0)},
            {**rows, FIRST: (True, arrow)},
            {**rows, FIRST: (-1, arrow)},
            {**rows, FIRST: (None, arrow)},
            {**rows, FIRST: (number, bool(arrow))},
            {**rows, FIRST: (number, True)},
            {**rows, FIRST: (number, 3)},
            {**rows, FIRST: (number, 6)},
            {**rows, FIRST: (number, -1)},
            {**rows, FIRST: (number, None)},
            {**rows, FIRST: (number, (arrow,))},
            {**rows, FIRST: (number, [arrow])},
            {**rows, FIRST: number},
            {**rows, FIRST: nested(29, lambda value: (value, value))},
            {**rows, FIRST: Map(*EXAMPLE)},
            {**rows, (((0, 1, 3), ()), (0, 4)): (0, 1)},
            {**rows, (((0, 3), ()), ()): (0, 0)},
            {**rows, (((0, 1), ()), (1,)): (1, 1)},
            {**rows, (((0, 1), (4,)), (0, 4)): (1, 1)},
            {**rows, (((0, 1), ()), (3, 0)): (1, 1)},
            {**rows, (((0, 1), ()), (6,)): (1, 1)},
            # A dict keeps the first one of keys that are equal.
            {(((0, 1), ()), (False,)): (1, 1), **rows},
            {((((0, True), ()), (0,))): (1, 1), **rows},
            {**rows, ((0,), ()): (1, 1)},
            {**rows, (((0,), ()), (), ()): (1, 1)},
            {**rows, (((0,), ()), None): (1, 1)},
            {**rows, (((0,), ()), "0"): (1, 1)},
            {**rows, 0: (1, 1)},
            {**rows, None: (1, 1)},
            {**rows, Party(chart, ()): (1, 1)},
            list(rows.items()),
            tuple(rows),
        ]
        for value in wrong + [value for value in odd_values() if value != {}]:
            self.assertEqual(plan_fault(chart, (), 3, value), ("form",))
        self.assertEqual(plan_fault(chart, (), 3, {}), ("begin",))

    def test_each_fault_alone_and_two_at_once(self):
        chart = Map(2, ((0, 1),) * 3, (1,))
        second, third = (((0,), (0,)), ()), (((0,), (0, 1)), ())
        rows = {FIRST: (2, 0), second: (1, 1), third: (0, 2)}
        self.assertIsNone(plan_fault(chart, (), 3, rows))
        self.assertEqual(plan_fault(chart, (), 2, rows), ("begin",))
        self.assertEqual(plan_fault(chart, (), 3, {**rows, second: (2, 1)}), ("falls", FIRST, False))
        self.assertEqual(plan_fault(chart, (), 3, {**rows, second: (0, 1)}), ("falls", second, False))
        self.assertEqual(plan_fault(chart, (), 3, {FIRST: (2, 0), third: (0, 2)}), ("falls", FIRST, False))
        # What no fitting world answers is no matter.
        facts = (((0, True),),)
        self.assertIsNone(plan_fault(chart, facts, 1, {FIRST: (0, 0)}))
        self.assertEqual(plan_fault(chart, facts, 1, {FIRST: (0, 1)}), ("falls", FIRST, False))
        # A key with arrows found rotten that are known to be sound is no knowledge.
        self.assertEqual(plan_fault(chart, facts, 1, {FIRST: (0, 0), second: (0, 1)}), ("form",))
        self.assertEqual(plan_fault(chart, facts, 1, {second: (0, 1)}), ("form",))
        self.assertEqual(plan_fault(chart, (), 1, {second: (0, 2)}), ("begin",))

    def test_sound_news_need_a_number_that_is_not_greater(self):
        chart = Map(3, ((0, 1), (1, 2), (1, 2)), (2,))
        there = (((0, 1), ()), (0,))
        last = (((0, 1), (1,)), (0,))
        rows = {FIRST: (1, 0), there: (1, 1), last: (0, 2)}
        self.assertIsNone(plan_fault(chart, (), 2, rows))
        self.assertEqual(plan_fault(chart, (), 2, {**rows, there: (2, 1)}), ("falls", FIRST, True))
        self.assertEqual(plan_fault(chart, (), 2, {FIRST: (1, 0), last: (0, 2)}), ("falls", FIRST, True))
        # The lot of the arrows found sound is a part of the key.
        other = {FIRST: (1, 0), (((0, 1), ()), ()): (1, 1), last: (0, 2)}
        self.assertEqual(plan_fault(chart, (), 2, other), ("falls", FIRST, True))


class FactsNeededTest(unittest.TestCase):
    def test_against_all_lots_of_clauses(self):
        for chart, plain, facts, _ in cases(4, 5):
            lots = [lot for size in range(len(facts) + 1) for lot in combinations(range(len(facts)), size)]
            lives = {lot: lives_with(chart, tuple(facts[k] for k in lot)) for lot in lots}
            same = [lot for lot in lots if lives[lot] == lives[lots[-1]]]
            right = [lot for lot in same if not any(set(other) < set(lot) for other in same)]
            told = facts_needed(chart, facts)
            self.assertEqual(told, sorted(right))
            self.assertIs(type(told), list)

    def test_by_hand(self):
        chart = Map(2, ((0, 1),) * 3, (1,))
        self.assertEqual(facts_needed(chart, ()), [()])
        self.assertEqual(facts_needed(chart, (((0, True), (0, False)),)), [()])
        self.assertEqual(facts_needed(chart, (((0, True),),) * 2), [(0,), (1,)])
        self.assertEqual(facts_needed(chart, (((0, False),), ((1, False),), ((2, True),))), [(0, 1), (2,)])
