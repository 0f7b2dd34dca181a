"""Promise [22]: a live base, its histories against a plain model."""

import random
import unittest

from untriedways.base import Base
from untriedways.errors import NoArrow, NoNews, NoPlace, NoTry, TooMany, WayError
from untriedways.maps import Map, great_map
from untriedways.standings import begin, is_done, news, worth
from untriedways.tables import left
from tests.plain import greatest_excess
from tests.samples import CHOSEN, EXAMPLE, odd_values, pairs_of_maps
from tests.test_parts import random_maps


class PlainBase:
    """The same by plain words: all that was struck counts as found rotten."""

    def __init__(self, many, arrows, goals):
        self.many, self.arrows, self.goals = many, tuple(arrows), goals
        self.reached, self.gone = {0}, set()

    def copied(self):
        other = PlainBase(self.many, self.arrows, self.goals)
        other.reached, other.gone = set(self.reached), set(self.gone)
        return other

    def come_to(self, sources, inside, gone):
        found = set(sources)
        for _ in range(self.many):
            for arrow, (tail, head) in enumerate(self.arrows):
                if arrow not in gone and tail in found and head in inside:
                    found.add(head)
        return found

    def stands(self, gone):
        everywhere = set(range(self.many))
        goals = set(self.goals) <= self.come_to({0}, everywhere, gone)
        return goals and self.come_to({0}, self.reached, gone) == self.reached

    def living(self):
        inside = set(range(self.many)) - self.reached
        ends = set(self.goals) & inside
        return {place for place in inside if self.come_to({place}, inside, self.gone) & ends}

    def tries(self):
        return [
            arrow
            for arrow, (tail, head) in enumerate(self.arrows)
            if arrow not in self.gone and tail in self.reached and head not in self.reached
        ]

    def worth(self):
        living = self.living()
        return tuple(arrow for arrow in self.tries() if self.arrows[arrow][1] in living)

    def standing(self):
        lost = [arrow for arrow in sorted(self.gone) if self.arrows[arrow][0] in self.reached]
        return (tuple(sorted(self.reached)), tuple(lost))

    def left(self):
        if set(self.goals) <= self.reached:
            return 0
        new = {place: k for k, place in enumerate(sorted(self.living()), 1)}
        tails = {**{place: 0 for place in self.reached}, **new}
        pairs = [
            (tails[tail], new[head])
            for arrow, (tail, head) in enumerate(self.arrows)
            if arrow not in self.gone and tail in tails and head in new
        ]
        goals = tuple(sorted(new[goal] for goal in self.goals if goal not in self.reached))
        return greatest_excess(len(new) + 1, tuple(pairs), goals)[0]

    def do(self, name, told):
        """The name of the error that is due, None if it is done."""
        return getattr(self, "do_" + name)(*told)

    def do_hear(self, arrow, sound):
        if arrow not in self.tries():
            return "NoTry"
        if sound:
            self.reached.add(self.arrows[arrow][1])
        elif self.stands(self.gone | {arrow}):
            self.gone.add(arrow)
        else:
            return "NoNews"
        return None

    def do_add(self, tail, head):
        if tail not in range(self.many) or head not in range(self.many) or tail == head:
            return "NoPlace"
        self.arrows = (*self.arrows, (tail, head))
        return None

    def do_strike(self, arrow):
        if arrow not in range(len(self.arrows)) or arrow in self.gone:
            return "NoArrow"
        if not self.stands(self.gone | {arrow}):
            return "NoArrow"
        self.gone.add(arrow)
        return None


def told_by(base):
    return base.standing(), base.worth(), base.left(), base.chart().arrows(), base.changes()


class HistoryTest(unittest.TestCase):
    def agrees(self, base, plain, changes):
        self.assertEqual(base.standing(), plain.standing())
        self.assertEqual(base.worth(), plain.worth())
        self.assertEqual(base.left(), plain.left())
        self.assertTrue(base.chart() == great_map(plain.many, plain.arrows, plain.goals))
        self.assertEqual(base.changes(), changes)
        # What is told is a standing of the map that is told.
        self.assertIs(is_done(base.chart(), base.standing()), set(plain.goals) <= plain.reached)

    def some_change(self, dice, plain):
        name = dice.choice(("hear", "hear", "add", "strike"))
        if name == "add":
            return name, (dice.randint(0, plain.many), dice.randint(0, plain.many - 1))
        arrow = dice.randint(0, len(plain.arrows))
        if name == "hear" and plain.tries() and dice.random() < 0.8:
            arrow = dice.choice(plain.tries())
        return name, ((arrow, dice.random() < 0.5) if name == "hear" else (arrow,))

    def one_history(self, parts, dice, steps):
        base, plain, before = Base(Map(*parts)), PlainBase(*parts), []
        errors = set()
        for _ in range(steps):
            if dice.random() < 0.15:
                self.assertIs(base.back(), len(before) > 0)
                plain = before.pop() if before else plain
            else:
                name, told = self.some_change(dice, plain)
                kept = plain.copied()
                error = plain.do(name, told)
                if error is None:
                    self.assertIsNone(getattr(base, name)(*told))
                    before.append(kept)
                else:
                    errors.add(error)
                    with self.assertRaises(WayError) as caught:
                        getattr(base, name)(*told)
                    self.assertEqual(type(caught.exception).__name__, error)
            self.agrees(base, plain, len(before))
        while before:
            self.assertIs(base.back(), True)
            plain = before.pop()
            self.agrees(base, plain, len(before))
        self.assertIs(base.back(), False)
        self.assertTrue(base.chart() == Map(*parts))
        self.assertEqual(base.standing(), ((0,), ()))
        return errors

    def test_long_histories(self):
        dice = random.Random(22)
        errors = set()
        for parts in CHOSEN + random_maps(4, 6, 12, 1) + random_maps(5, 8, 8, 2):
            errors |= self.one_history(parts, dice, 40)
        self.assertEqual(errors, {"NoTry", "NoNews", "NoPlace", "NoArrow"})

    def test_news_alone_are_as_of_the_map(self):
        dice = random.Random(4)
        for chart, plain in pairs_of_maps():
            base, standing = Base(chart), begin(chart)
            while plain.tries(standing):
                arrow, sound = dice.choice(plain.tries(standing)), dice.random() < 0.5
                if plain.news(standing, arrow, sound) is not None:
                    base.hear(arrow, sound)
                    standing = news(chart, standing, arrow, sound)
                elif plain.news(standing, arrow, True) is not None:
                    with self.assertRaises(NoNews):
                        base.hear(arrow, sound)
                    base.hear(arrow, True)
                    standing = news(chart, standing, arrow, True)
                self.assertEqual(base.standing(), standing)
                self.assertEqual(base.worth(), worth(chart, standing))
                self.assertEqual(base.left(), left(chart, standing))


class StrikeTest(unittest.TestCase):
    def setUp(self):
        self.base = Base(Map(*EXAMPLE))

    def refused(self, call, error, *told):
        before = told_by(self.base)
        with self.assertRaises(error):
            call(*told)
        self.assertEqual(told_by(self.base), before)

    def test_a_tail_that_is_reached_later(self):
        self.base.strike(4)
        self.assertEqual(self.base.standing(), ((0,), ()))
        self.assertEqual((self.base.worth(), self.base.left()), ((0, 1), 1))
        self.base.hear(0, True)
        self.assertEqual(self.base.standing(), ((0, 1), (4,)))
        # Arrow 3 leads to place 1, which is reached, and arrow 4 is there no more.
        self.assertEqual(self.base.worth(), (1, 2))
        self.refused(self.base.hear, NoTry, 4, True)
        self.base.back()
        self.assertEqual(self.base.standing(), ((0,), ()))
        self.base.back()
        self.assertEqual((self.base.worth(), self.base.left()), ((0, 1), 2))
        self.assertIs(self.base.back(), False)

    def test_what_it_cuts_off_is_not_alive(self):
        # Behind place 2 only arrow 5 leads home, or the way by 3 and 4.
        self.base.strike(3)
        self.base.strike(5)
        self.assertEqual(self.base.worth(), (0,))
        self.assertEqual(self.base.left(), 0)
        self.refused(self.base.strike, NoArrow, 0)
        self.refused(self.base.strike, NoArrow, 4)
        self.refused(self.base.hear, NoNews, 0, False)
        self.base.hear(1, False)
        self.base.strike(2)
        self.assertEqual(self.base.standing(), ((0,), (1,)))
        self.base.hear(0, True)
        self.assertEqual(self.base.standing(), ((0, 1), (1, 2)))
        self.base.hear(4, True)
        self.assertEqual(self.base.standing(), ((0, 1, 3), (1, 2)))

    def test_an_arrow_on_which_a_reached_place_hangs(self):
        base = Base(Map(3, ((0, 1), (0, 2), (1, 2), (2, 1)), (2,)))
        base.hear(0, True)
        with self.assertRaises(NoArrow):
            base.strike(0)
        base.add(0, 1)
        base.strike(0)
        self.assertEqual(base.standing(), ((0, 1), (0,)))
        with self.assertRaises(NoArrow):
            base.strike(4)
        base.hear(2, True)
        # Now place 1 could be come to by place 2, and place 2 by place 1, but one of them by 0.
        base.strike(4)
        with self.assertRaises(NoArrow):
            base.strike(1)
        with self.assertRaises(NoArrow):
            base.strike(3)
        base.strike(2)
        self.assertEqual(base.standing(), ((0, 1, 2), (0, 2, 4)))
        self.assertEqual((base.left(), base.worth(), base.changes()), (0, (), 6))

    def test_an_arrow_between_places_that_nobody_comes_to(self):
        base = Base(Map(4, ((0, 1), (2, 3), (3, 2)), (1,)))
        base.strike(1)
        self.assertEqual(base.standing(), ((0,), ()))
        base.add(0, 2)
        base.hear(3, True)
        self.assertEqual(base.standing(), ((0, 2), (1,)))
        with self.assertRaises(NoTry):
            base.hear(1, True)
        with self.assertRaises(NoArrow):
            base.strike(1)

    def test_found_rotten_or_struck_already(self):
        self.base.hear(0, False)
        for arrow in (0, 1):
            self.refused(self.base.strike, NoArrow, arrow)
        self.base.strike(5)
        self.refused(self.base.strike, NoArrow, 5)
        self.refused(self.base.hear, NoTry, 5, True)
        self.refused(self.base.hear, NoTry, 0, True)
        self.assertEqual(self.base.changes(), 2)

    def test_it_keeps_its_number(self):
        self.base.strike(0)
        self.assertTrue(self.base.chart() == Map(*EXAMPLE))
        self.base.add(0, 3)
        self.assertEqual(self.base.chart().arrows()[6], (0, 3))
        self.assertEqual(self.base.worth(), (1, 6))
        self.base.hear(6, False)
        self.assertEqual(self.base.standing(), ((0,), (0, 6)))

    def test_when_all_goals_are_reached(self):
        base = Base(Map(2, ((0, 1), (0, 1)), (1,)))
        base.hear(0, True)
        self.assertEqual(base.left(), 0)
        base.strike(0)
        with self.assertRaises(NoArrow):
            base.strike(1)
        with self.assertRaises(NoTry):
            base.hear(1, True)
        base.add(1, 0)
        base.strike(2)
        self.assertEqual(base.standing(), ((0, 1), (0, 2)))


class ChangeTest(unittest.TestCase):
    def test_what_is_no_place(self):
        base = Base(Map(*EXAMPLE))
        for wrong in [4, -1, "0", (0,)] + odd_values():
            for told in ((wrong, 1), (1, wrong), (wrong, wrong)):
                with self.assertRaises(NoPlace):
                    base.add(*told)
        for place in range(4):
            with self.assertRaises(NoPlace):
                base.add(place, place)
        self.assertEqual(base.changes(), 0)

    def test_what_is_no_arrow_or_try(self):
        base = Base(Map(*EXAMPLE))
        for wrong in [6, -1, "0", (0,)] + odd_values():
            with self.assertRaises(NoArrow):
                base.strike(wrong)
            for sound in (True, False, None, 1):
                with self.assertRaises(NoTry):
                    base.hear(wrong, sound)
        for arrow in range(2, 6):
            with self.assertRaises(NoTry):
                base.hear(arrow, "True")
        self.assertEqual(base.changes(), 0)

    def test_what_is_no_news(self):
        base = Base(Map(*EXAMPLE))
        for sound in [0, 1, "True"] + [value for value in odd_values() if not isinstance(value, bool)]:
            with self.assertRaises(NoNews):
                base.hear(0, sound)
        base.hear(0, False)
        with self.assertRaises(NoNews):
            base.hear(1, False)
        self.assertEqual((base.changes(), base.standing()), (1, ((0,), (0,))))

    def test_more_arrows_than_a_map_has(self):
        base = Base(Map(2, ((0, 1),) * 60, (1,)))
        for count in range(61, 70):
            base.add(0, 1)
            self.assertEqual((len(base.chart().arrows()), base.left()), (count, count - 1))
        base.hear(68, False)
        self.assertEqual(base.left(), 67)

    def test_arrows_to_and_from_everywhere(self):
        base = Base(Map(3, ((0, 1),), (1,)))
        for tail, head in ((1, 0), (2, 0), (2, 1), (0, 2)):
            base.add(tail, head)
        self.assertEqual(base.worth(), (0, 4))
        base.hear(4, True)
        base.hear(3, True)
        self.assertEqual(base.standing(), ((0, 1, 2), ()))
        base.strike(0)
        self.assertEqual(base.standing(), ((0, 1, 2), (0,)))

    def test_too_many(self):
        chart = Map(10, tuple((place, place + 1) for place in range(9)) + ((0, 9),), (9,))
        base = Base(chart)
        with self.assertRaises(TooMany) as caught:
            base.left()
        self.assertEqual(caught.exception.most, 9)
        base.strike(4)
        # Place 1 leads nowhere now.
        self.assertEqual(base.left(), 0)
        base.back()
        with self.assertRaises(TooMany):
            base.left()
        base.hear(0, True)
        self.assertEqual(base.left(), 1)

    def test_what_was_told_stays(self):
        base = Base(Map(*EXAMPLE))
        chart, standing, worthy = base.chart(), base.standing(), base.worth()
        base.add(0, 3)
        base.hear(6, False)
        base.strike(2)
        self.assertTrue(chart == Map(*EXAMPLE))
        self.assertEqual((standing, worthy), (((0,), ()), (0, 1)))
        other = Base(base.chart())
        other.hear(0, True)
        self.assertEqual(base.standing(), ((0,), (6,)))

    def test_a_map_is_shared_by_several(self):
        chart = Map(*EXAMPLE)
        one, other = Base(chart), Base(chart)
        one.add(1, 2)
        one.strike(0)
        self.assertEqual(other.changes(), 0)
        self.assertTrue(chart == Map(*EXAMPLE) and other.chart() == chart)


if __name__ == "__main__":
    unittest.main()
