"""One map asked through different doors tells the same; the facts that the document names."""

import random
import unittest

from untriedways.base import Base
from untriedways.desk import Desk
from untriedways.evenings import longest
from untriedways.foes import led_by_foe
from untriedways.joined import behind, beside, stack_worst
from untriedways.knowing import lives_with
from untriedways.latenews import late_walk, worst_among
from untriedways.ledgers import gifts, ledger, run_part
from untriedways.maps import Map, great_map
from untriedways.parts import excess, on_ways, part, part_fault, turned, worst
from untriedways.plans import sent_by, walk
from untriedways.prices import cheapest
from untriedways.recipes import Cookery, recipe_worst, serving
from untriedways.runs import run_standing
from untriedways.standings import begin, is_done, news, worth
from untriedways.strangers import judged, most_evenings, most_lost, refuted
from untriedways.tables import left, rest_map, table, table_fault
from untriedways.texts import map_text, read_map
from untriedways.ties import tie_map, tie_worst
from untriedways.wholeways import ways
from tests.plain import PlainMap
from tests.samples import CHOSEN, EXAMPLE
from tests.test_parts import random_maps
from tests.test_ties import random_webs

NAMES = ("first", "last", "all", "near", "far")


def some_charts():
    """Small maps from all doors by which maps are returned."""
    rows = CHOSEN + random_maps(4, 7, 12, 11) + random_maps(5, 9, 8, 12)
    charts = [Map(*parts) for parts in rows]
    single = [chart for chart in charts if len(chart.goals()) == 1 and len(chart.arrows()) <= 4]
    charts += [turned(chart) for chart in charts if len(chart.goals()) == 1]
    charts += [behind(one, other) for one in single[:3] for other in single[:3]]
    charts += [beside(one, other) for one in single[:3] for other in single[:3]]
    charts += [read_map(map_text(chart)) for chart in charts[:6]]
    charts += [rest_map(chart, begin(chart))[0] for chart in charts[:12]]
    charts += [tie_map(*web) for web in random_webs(4, 4, 5, 3)]
    base = Base(Map(*EXAMPLE))
    base.add(0, 3)
    base.strike(2)
    return charts + [base.chart()]


class DoorsTest(unittest.TestCase):
    def test_the_worst(self):
        for chart in some_charts():
            right = worst(chart)
            self.assertEqual(left(chart, begin(chart)), right)
            self.assertEqual(table(chart)[begin(chart)], right)
            self.assertEqual(Base(chart).left(), right)
            self.assertEqual(Desk(chart).tell("left"), str(right))
            self.assertEqual(excess(part(chart)), right)
            self.assertEqual(worst(rest_map(chart, begin(chart))[0]), right)
            self.assertEqual([worst_among(chart, most) for most in range(4)], [min(most, right) for most in range(4)])
            if len(chart.arrows()) <= 9:
                self.assertEqual(lives_with(chart, ()) - 1, right)
                self.assertEqual(cheapest(chart, (1,) * len(chart.arrows())), right)
            if len(chart.goals()) == 1:
                self.assertEqual(worst(turned(chart)), right)
                self.assertEqual(stack_worst(chart), right)
                self.assertTrue(turned(turned(chart)) == chart)
            if all(head for _, head in chart.arrows()) and len(chart.arrows()) <= 9:
                rows = tuple(((tail,), head) for tail, head in chart.arrows())
                self.assertEqual(recipe_worst(Cookery(chart.many(), (0,), rows, chart.goals())), right)

    def test_ties(self):
        for web in random_webs(4, 5, 20, 1) + random_webs(6, 7, 20, 2):
            self.assertEqual(tie_worst(*web), worst(tie_map(*web)))
            self.assertEqual(tie_worst(*web), left(tie_map(*web), begin(tie_map(*web))))

    def test_ways(self):
        for chart in some_charts():
            if len(chart.goals()) == 1:
                told = ways(chart)
                self.assertEqual(sorted({arrow for way in told for arrow in way}), list(on_ways(chart)))
                self.assertEqual(max(len(way) for way in told), len(longest(chart)))
                if all(head for _, head in chart.arrows()) and len(chart.arrows()) <= 12:
                    rows = tuple(((tail,), head) for tail, head in chart.arrows())
                    cookery = Cookery(chart.many(), (0,), rows, chart.goals())
                    self.assertEqual(serving(cookery, ((0,), ())), on_ways(chart))

    def test_texts(self):
        for chart in some_charts():
            self.assertTrue(read_map(map_text(chart)) == chart)


class FactsTest(unittest.TestCase):
    def test_plans_by_all_doors(self):
        for chart in some_charts():
            right = worst(chart)
            for name in NAMES:
                def plan(standing):
                    return sent_by(chart, name, standing)

                self.assertIsNone(judged(chart, plan))
                self.assertEqual(most_lost(chart, plan), right)
                self.assertIsNone(refuted(chart, right + 1, plan))
                lost, run, world = led_by_foe(chart, part(chart), plan)
                self.assertEqual(lost, right)
                self.assertEqual(walk(chart, world, plan), (lost, run))
                self.assertIsNone(part_fault(chart, run_part(chart, run)))
                self.assertEqual(excess(run_part(chart, run)), right)
                self.assertEqual(sum(one + gift for one, gift in ledger(chart, run)), right)

    def test_all_at_once(self):
        for chart in some_charts():
            plan = lambda standing: worth(chart, standing)
            self.assertLessEqual(most_evenings(chart, plan), len(longest(chart)))
            if len(chart.goals()) == 1:
                self.assertEqual(most_evenings(chart, plan), len(longest(chart)))

    def test_gifts_and_ledgers_on_the_way(self):
        dice = random.Random(2)
        for chart in some_charts():
            standing, run = begin(chart), []
            while not is_done(chart, standing):
                arrow = dice.choice(worth(chart, standing))
                rotten, sound = gifts(chart, standing, arrow)
                self.assertTrue(rotten == 0 or sound == 0)
                flag = rotten is None or dice.random() < 0.5
                run.append(((arrow, flag),))
                standing = news(chart, standing, arrow, flag)
                self.assertEqual(ledger(chart, run)[-1], (int(not flag), sound if flag else rotten))
            self.assertEqual(run_standing(chart, run), standing)
            self.assertGreaterEqual(excess(run_part(chart, run)), len(standing[1]))

    def test_late_news(self):
        for chart in some_charts():
            if len(chart.arrows()) <= 7:
                for world in PlainMap(chart.many(), chart.arrows(), chart.goals()).worlds[::9]:
                    for late in (0, 1, 5):
                        lost, _, _ = late_walk(chart, world, lambda standing, sent: tuple(
                            arrow for arrow in worth(chart, standing) if arrow not in sent
                        ), late)
                        self.assertLessEqual(lost, worst(chart))

    def test_a_table_shows_what_is_enough(self):
        for chart in some_charts():
            rows = table(chart)
            self.assertIsNone(table_fault(chart, worst(chart) + 1, rows))
            if worst(chart) > 0:
                self.assertEqual(table_fault(chart, worst(chart), rows), ("begin",))

    def test_a_base_that_goes_on_tells_what_its_map_does(self):
        dice = random.Random(3)
        for chart in some_charts():
            base = Base(chart)
            for _ in range(6):
                tail, head = dice.sample(range(chart.many()), 2)
                base.add(tail, head)
            arrows = base.chart().arrows()
            self.assertEqual(arrows[:-6], chart.arrows())
            self.assertEqual(base.left(), worst(great_map(chart.many(), arrows, chart.goals())))
            while base.worth():
                arrow = base.worth()[0]
                base.hear(arrow, True)
                self.assertEqual(base.left(), left(base.chart(), base.standing()))
                self.assertEqual(base.worth(), worth(base.chart(), base.standing()))


if __name__ == "__main__":
    unittest.main()
