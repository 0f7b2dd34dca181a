"""Promise [24]: ties, against the map of the ties and against lists of all ways."""

import random
import unittest

from untriedways.base import Base
from untriedways.errors import NoMap
from untriedways.knowing import lives_with
from untriedways.maps import Map
from untriedways.parts import excess, on_ways, part_fault, worst
from untriedways.ties import on_tie_ways, tie_map, tie_part, tie_worst
from tests.samples import nested, odd_values

CALLS = (tie_map, on_tie_ways, tie_worst, tie_part)


def opens(many, ties, goals):
    try:
        tie_map(many, ties, goals)
    except NoMap:
        return False
    return True


def random_webs(many, size, count, seed):
    dice = random.Random(seed)
    found = []
    while len(found) < count:
        ties = tuple(tuple(dice.sample(range(many), 2)) for _ in range(size))
        goals = tuple(sorted(dice.sample(range(1, many), dice.randint(1, min(3, many - 1)))))
        if opens(many, ties, goals):
            found.append((many, ties, goals))
    return found


def plain_on_ways(many, ties, goals):
    """The ties on ways, by going on from the start to all places where one has not been."""
    found = set()
    begun = [(0, (0,), ())]
    while begun:
        at, been, gone = begun.pop()
        if at in goals:
            found.update(gone)
        for tie, ends in enumerate(ties):
            if at in ends:
                other = ends[0] + ends[1] - at
                if other not in been:
                    begun.append((other, (*been, other), (*gone, tie)))
    return tuple(sorted(found))


WEBS = [
    (2, ((0, 1),), (1,)),
    (2, ((1, 0), (0, 1), (1, 0)), (1,)),
    # A ring, with the goal beside the start and across from it.
    (4, ((0, 1), (1, 2), (2, 3), (3, 0)), (1,)),
    (4, ((0, 1), (1, 2), (2, 3), (3, 0)), (2,)),
    # A bridge to a ring that has the goal; a ring on which no goal lies; a dead branch.
    (5, ((1, 0), (1, 2), (2, 3), (3, 4), (4, 1)), (3,)),
    (5, ((0, 1), (0, 2), (2, 3), (3, 4), (4, 2)), (1,)),
    (5, ((0, 1), (1, 2), (2, 3), (2, 4)), (2,)),
    # A ring that hangs at the start, and one at the goal.
    (6, ((0, 1), (0, 2), (2, 3), (3, 0), (1, 4), (4, 5), (5, 1)), (1,)),
    # Goals one behind another; a goal between; goals in a ring, on both sides of the start.
    (4, ((0, 1), (1, 2), (2, 3)), (1, 2, 3)),
    (5, ((0, 1), (1, 2), (2, 3), (3, 1), (3, 4)), (1, 4)),
    (5, ((0, 1), (1, 2), (2, 0), (0, 3), (3, 4), (4, 0)), (1, 3)),
    # Two rings that meet in one place; ties twice.
    (7, ((0, 1), (1, 2), (2, 3), (3, 0), (2, 4), (4, 5), (5, 6), (6, 2)), (5,)),
    (4, ((0, 1), (0, 1), (1, 2), (2, 1), (2, 3), (2, 3)), (2,)),
    # Places to which no tie comes.
    (6, ((0, 4), (4, 5), (1, 2)), (4,)),
    # All places tied to all.
    (5, tuple((one, two) for one in range(5) for two in range(one)), (3,)),
]

# Of 40 places: a line; a great ring with a tie across; rungs of a ladder with tails.
GREAT = [
    (40, tuple((place, place + 1) for place in range(30)), (30,)),
    (40, tuple((place, place + 1) for place in range(30)), (7, 22)),
    (40, tuple((place, (place + 1) % 29) for place in range(29)) + ((5, 20),), (14,)),
    (40, tuple((place, (place + 1) % 20) for place in range(20)) + tuple((place, place + 20) for place in range(10)), (10,)),
    (40, ((0, 39), (39, 38), (38, 0), (38, 37), (37, 36), (36, 35), (35, 37), (35, 1), (1, 37)), (1, 36)),
    (40, tuple((place, place + 2) for place in range(18)) + tuple((place, place + 1) for place in range(0, 20, 2)), (19,)),
]


class TiesTest(unittest.TestCase):
    def agrees(self, many, ties, goals):
        chart = tie_map(many, ties, goals)
        on = on_tie_ways(many, ties, goals)
        self.assertEqual(on, plain_on_ways(many, ties, goals))
        places = {place for tie in on for place in ties[tie]}
        self.assertEqual(tie_worst(many, ties, goals), len(on) - len(places) + 1)
        told = tie_part(many, ties, goals)
        self.assertIsNone(part_fault(chart, told))
        self.assertEqual(excess(told), tie_worst(many, ties, goals))
        self.assertEqual(tuple(arrow // 2 for arrow in told[1]), on)
        self.assertEqual(set(told[0]), places)
        return chart, on

    def agrees_with_the_map(self, many, ties, goals):
        chart, on = self.agrees(many, ties, goals)
        self.assertEqual(sorted({arrow // 2 for arrow in on_ways(chart)}), list(on))
        self.assertEqual(worst(chart), tie_worst(many, ties, goals))

    def test_chosen_webs(self):
        for web in WEBS:
            self.agrees_with_the_map(*web)

    def test_many_small_webs(self):
        for many, size, count in ((3, 3, 60), (4, 5, 150), (5, 6, 150), (5, 9, 60), (6, 8, 100), (7, 9, 60), (8, 10, 25)):
            for web in random_webs(many, size, count, many * size):
                self.agrees_with_the_map(*web)

    def test_great_webs(self):
        for web in GREAT + random_webs(15, 20, 40, 3) + random_webs(22, 30, 30, 4) + random_webs(12, 30, 2, 5):
            self.agrees(*web)

    def test_some_in_full(self):
        self.assertEqual([tie_worst(*web) for web in WEBS[:5]], [0, 2, 1, 1, 1])
        self.assertEqual(on_tie_ways(*WEBS[5]), (0,))
        self.assertEqual(on_tie_ways(*WEBS[6]), (0, 1))
        self.assertEqual(on_tie_ways(*WEBS[7]), (0,))
        self.assertEqual(on_tie_ways(*WEBS[8]), (0, 1, 2))
        self.assertEqual(tie_part(*WEBS[6]), ((0, 1, 2), (0, 2)))
        self.assertEqual(tie_part(*WEBS[0]), ((0, 1), (0,)))
        self.assertEqual(tie_part(*WEBS[1]), ((0, 1), (1, 2, 5)))

    def test_the_map(self):
        chart = tie_map(4, ((0, 1), (2, 1), (3, 0)), (2,))
        self.assertTrue(chart == Map(4, ((0, 1), (1, 0), (2, 1), (1, 2), (3, 0), (0, 3)), (2,)))
        many, ties, goals = GREAT[2]
        chart = tie_map(many, ties, goals)
        self.assertEqual((chart.many(), len(chart.arrows()), chart.goals()), (40, 60, (14,)))

    def test_a_goal_against_the_sense_of_the_pairs(self):
        self.assertEqual(on_tie_ways(3, ((2, 1), (1, 0)), (2,)), (0, 1))

    def test_one_life_for_a_tie(self):
        # Who is lost at a tie finds both arrows rotten: in all worlds both are rotten or none.
        for many, ties, goals in [web for web in WEBS if len(web[1]) <= 4] + random_webs(4, 4, 12, 6):
            facts = []
            for tie in range(len(ties)):
                facts.append(((2 * tie, True), (2 * tie + 1, False)))
                facts.append(((2 * tie, False), (2 * tie + 1, True)))
            self.assertEqual(lives_with(tie_map(many, ties, goals), tuple(facts)), tie_worst(many, ties, goals) + 1)
            self.assertEqual(Base(tie_map(many, ties, goals)).left(), tie_worst(many, ties, goals))


class RefusedTest(unittest.TestCase):
    def refused(self, name, *parts):
        for call in CALLS:
            with self.assertRaises(NoMap) as caught:
                call(*parts)
            self.assertEqual(caught.exception.part, name)

    def test_each_part_and_two_at_once(self):
        ties, goals = ((0, 1), (1, 2)), (2,)
        for call in CALLS:
            call(3, ties, goals)
        for many in [1, 0, -1, 41, "3", (3,)] + odd_values():
            self.refused("many", many, ties, goals)
            self.refused("many", many, None, None)
        wrong = [
            [(0, 1), (1, 2)],
            ((0, 1), [1, 2]),
            ((0, 1), (1, 1)),
            ((0, 1), (1, 3)),
            ((0, 1), (1, -1)),
            ((0, 1), (1, True)),
            ((0, 1), (1,)),
            ((0, 1), (1, 2, 0)),
            ((0, 1),) * 31,
            nested(30, lambda value: (value, value)),
        ]
        for value in wrong + [value for value in odd_values() if value != ()]:
            self.refused("arrows", 3, value, goals)
            self.refused("arrows", 3, value, ())
        for value in [(), (0,), (0, 2), (2, 1), (3,), (1, 1), [2], (True,), "2", 2] + odd_values():
            self.refused("goals", 3, ties, value)

    def test_goals_within_reach(self):
        self.refused("goals", 4, ((0, 1), (2, 3)), (2,))
        self.refused("goals", 4, ((0, 1), (2, 3)), (1, 3))
        self.refused("goals", 2, (), (1,))

    def test_edges(self):
        line = tuple((place, place + 1) for place in range(30))
        self.assertEqual(tie_worst(40, line, (30,)), 0)
        self.assertEqual(tie_worst(2, ((0, 1),) * 30, (1,)), 29)
        self.refused("goals", 40, line, (31,))


if __name__ == "__main__":
    unittest.main()
