"""Promise [27]: long talks with the desk, against the plain search and the earlier stages."""

import random
import unittest

from untriedways.desk import Desk
from untriedways.errors import Done, NoLine, NoName, NoNews, NoTries, NothingDone, TooMany, WayError
from untriedways.joined import beside
from untriedways.ledgers import ledger
from untriedways.maps import Map
from untriedways.plans import sent_by
from untriedways.runs import run_standing
from untriedways.standings import sure, worth
from untriedways.tables import left
from untriedways.texts import read_run
from tests.plain import PlainMap
from tests.samples import CHOSEN, EXAMPLE, odd_values
from tests.test_parts import random_maps
from tests.test_plans import plain_sent
from tests.test_tables import plain_left

ASKED = ("worth", "sure", "dead", "left", "lost", "evenings", "run")
NAMES = ("first", "last", "all", "near", "far")
TEN = Map(10, tuple((place, place + 1) for place in range(9)), (9,))


def lot_text(lot):
    return ",".join(map(str, lot)) or "-"


class PlainDesk:
    """The same by the plain search; it tells the name of an error in the place of a text."""

    def __init__(self, parts):
        self.plain = PlainMap(*parts)
        self.run = []

    def here(self):
        standing = ((0,), ())
        for pairs in self.run:
            standing = self.plain.behind(standing, pairs)
        return standing

    def hear(self, pairs):
        here = self.here()
        if self.plain.is_done(here):
            return "Done"
        if not {arrow for arrow, _ in pairs} <= set(self.plain.tries(here)):
            return "NoTries"
        if self.plain.behind(here, pairs) is None:
            return "NoNews"
        self.run.append(tuple(pairs))
        return "ok"

    def undo(self):
        if not self.run:
            return "NothingDone"
        self.run.pop()
        return "ok"

    def ask(self, word):
        plain, here = self.plain, self.here()
        if word == "dead":
            return lot_text(sorted(plain.unreached(here) - set(plain.alive(here))))
        if word == "run":
            words = [" ".join(f"{arrow}{'+' if sound else '-'}" for arrow, sound in pairs) for pairs in self.run]
            return "|".join(words) or "none"
        return {
            "worth": lambda: lot_text(plain.worth(here)),
            "sure": lambda: lot_text(plain.sure(here)),
            "left": lambda: str(plain_left(plain, here)),
            "lost": lambda: str(sum(not sound for pairs in self.run for _, sound in pairs)),
            "evenings": lambda: str(len(self.run)),
        }[word]()


def told(desk, line):
    """What the desk tells, or the name of the error."""
    try:
        return desk.tell(line)
    except WayError as error:
        return type(error).__name__


def hear_line(pairs):
    return " ".join(["hear", *(f"{arrow}{'+' if sound else '-'}" for arrow, sound in pairs)])


class TalkTest(unittest.TestCase):
    def agrees(self, desk, model):
        for word in ASKED:
            self.assertEqual(desk.tell(word), model.ask(word), word)
        for name in NAMES:
            self.assertEqual(desk.tell("advise " + name), lot_text(plain_sent(model.plain, name, model.here())))
        self.assertEqual(desk.undoable(), len(model.run))

    def some_pairs(self, dice, model):
        tried = model.plain.tries(model.here())
        arrows = tried if tried and dice.random() < 0.8 else range(len(model.plain.arrows) + 1)
        chosen = sorted(dice.sample(list(arrows), dice.randint(1, min(3, len(arrows)))))
        return [(arrow, dice.random() < 0.6) for arrow in chosen]

    def test_long_talks(self):
        dice = random.Random(27)
        seen = set()
        for parts in CHOSEN + random_maps(4, 7, 8, 4) + random_maps(5, 9, 4, 4):
            desk, model = Desk(Map(*parts)), PlainDesk(parts)
            for _ in range(30):
                if dice.random() < 0.35:
                    right, line = model.undo(), "undo"
                else:
                    pairs = self.some_pairs(dice, model)
                    right, line = model.hear(pairs), hear_line(pairs)
                seen.add(right)
                self.assertEqual(told(desk, line), right)
                self.agrees(desk, model)
            while model.run:
                self.assertEqual((desk.tell("undo"), model.undo()), ("ok", "ok"))
                self.agrees(desk, model)
            self.assertEqual(told(desk, "undo"), "NothingDone")
        self.assertEqual(seen, {"ok", "Done", "NoTries", "NoNews", "NothingDone"})

    def test_against_the_earlier_stages(self):
        chart = Map(*EXAMPLE)
        desk = Desk(chart)
        for line in ("hear 0-", "hear 1+", "hear 3- 5+"):
            self.assertEqual(desk.tell(line), "ok")
            run = read_run(desk.tell("run").replace("|", "\n"))
            standing = run_standing(chart, run)
            self.assertEqual(desk.tell("worth"), lot_text(worth(chart, standing)))
            self.assertEqual(desk.tell("sure"), lot_text(sure(chart, standing)))
            self.assertEqual(desk.tell("left"), str(left(chart, standing)))
            self.assertEqual(desk.tell("lost"), str(sum(lost for lost, _ in ledger(chart, run))))
            for name in NAMES:
                self.assertEqual(desk.tell("advise " + name), lot_text(sent_by(chart, name, standing)))

    def test_in_full(self):
        desk = Desk(Map(*EXAMPLE))
        self.assertEqual([desk.tell(word) for word in ASKED], ["0,1", "-", "-", "2", "0", "0", "none"])
        self.assertEqual(desk.tell("hear 0- 1+"), "ok")
        self.assertEqual([desk.tell(word) for word in ASKED], ["3,5", "1", "-", "1", "1", "1", "0- 1+"])
        self.assertEqual(desk.tell("hear 5-"), "ok")
        self.assertEqual([desk.tell(word) for word in ASKED], ["3", "1,3,4", "-", "0", "2", "2", "0- 1+|5-"])
        self.assertEqual(desk.tell("hear 3+"), "ok")
        self.assertEqual(desk.tell("hear 4+"), "ok")
        self.assertEqual([desk.tell(word) for word in ASKED], ["-", "1,3,4", "-", "0", "2", "4", "0- 1+|5-|3+|4+"])
        for name in NAMES:
            self.assertEqual(desk.tell("advise " + name), "-")
        self.assertEqual(desk.undoable(), 4)
        desk = Desk(Map(4, ((0, 1), (0, 2), (2, 3)), (1,)))
        self.assertEqual((desk.tell("dead"), desk.tell("sure")), ("2,3", "0"))


class RefusedTest(unittest.TestCase):
    def setUp(self):
        self.desk = Desk(Map(*EXAMPLE))

    def refused(self, error, line):
        before = [self.desk.tell(word) for word in ASKED] + [self.desk.undoable()]
        with self.assertRaises(error):
            self.desk.tell(line)
        self.assertEqual([self.desk.tell(word) for word in ASKED] + [self.desk.undoable()], before)

    def test_what_is_no_line(self):
        wrong = [
            "",
            " ",
            "hear",
            "hear ",
            "hear  0+",
            "hear 0+ ",
            " hear 0+",
            "hear 0+  1+",
            "hear 0",
            "hear +",
            "hear +0",
            "hear 0 +",
            "hear 0+-",
            "hear 0+1-",
            "hear 0+,1-",
            "hear 00+",
            "hear 01+",
            "hear -1+",
            "hear 0* 1+",
            "hear 0+ 0-",
            "hear 1+ 0+",
            "hear 0+ 1- 1+",
            "hear 10+ 9+",
            "hear 10+ 2+",
            "hear 0+ x",
            "hear 0+ 1",
            "Hear 0+",
            "hears 0+",
            "hear\t0+",
            "hear 0+\t1-",
            "hear none",
            "hear -",
            "hear " + "9" * 5001 + "+ " + "9" * 5000 + "+",
            "undo ",
            " undo",
            "undo 1",
            "undo undo",
            "Undo",
            "undone",
            "worth ",
            "worth 0",
            "sure?",
            "dead dead",
            "left\t",
            "lost 1",
            "evening",
            "run 0+",
            "RUN",
            "ok",
            "advise",
            "advise ",
            "advise  near",
            "advise near ",
            "advise near far",
            " advise near",
            "Advise near",
            "advice near",
            "undo\n",
            "\nundo",
            "worth\nworth",
            "hear 0+\n",
            "hear 0+\nhear 1+",
            "advise near\n",
            "advise \n",
            "a\nb",
        ]
        for begun in ("hear 0+", "hear 4+", "undo"):
            for line in wrong + odd_values():
                self.refused(NoLine, line)
            self.desk.tell(begun)

    def test_no_line_ahead_of_done(self):
        self.desk.tell("hear 0+")
        self.desk.tell("hear 4+")
        for line in ("hear 1+ 0+", "hear", "hear 0+ 0+", "hear x"):
            self.refused(NoLine, line)
        for line in ("hear 1+", "hear 1-", "hear 0+", "hear 77+", "hear 0- 4-", "hear " + "9" * 5000 + "-"):
            self.refused(Done, line)

    def test_no_tries_ahead_of_no_news(self):
        for line in ("hear 2+", "hear 0- 1- 2-", "hear 6+", "hear 0- 1- 6+", "hear 0+ " + "1" * 5000 + "-", "hear 1000000000+"):
            self.refused(NoTries, line)
        self.refused(NoNews, "hear 0- 1-")
        self.desk.tell("hear 0-")
        self.refused(NoTries, "hear 0+")
        self.refused(NoNews, "hear 1-")
        self.assertEqual(self.desk.tell("hear 1+"), "ok")

    def test_nothing_done(self):
        self.refused(NothingDone, "undo")
        self.desk.tell("hear 0+ 1+")
        self.assertEqual(self.desk.tell("undo"), "ok")
        self.refused(NothingDone, "undo")

    def test_no_name(self):
        for name in ("First", "nearest", "x", "~", "1", "-", "first,last", "near\tfar", "\t", "advise"):
            self.refused(NoName, "advise " + name)
        self.desk.tell("hear 0+")
        self.desk.tell("hear 4+")
        self.refused(NoName, "advise none")

    def test_too_many(self):
        desk = Desk(TEN)
        with self.assertRaises(TooMany) as caught:
            desk.tell("left")
        self.assertEqual(caught.exception.most, 9)
        self.assertEqual((desk.tell("worth"), desk.tell("advise far"), desk.undoable()), ("0", "0", 0))
        desk.tell("hear 0+")
        self.assertEqual(desk.tell("left"), "0")
        desk.tell("undo")
        with self.assertRaises(TooMany):
            desk.tell("left")

    def test_kinds(self):
        for line in (*ASKED, "advise near", "hear 0+", "undo"):
            self.assertIs(type(self.desk.tell(line)), str)
        self.assertIs(type(self.desk.undoable()), int)


class OtherMapsTest(unittest.TestCase):
    def test_a_great_map(self):
        chart = beside(Map(2, ((0, 1),) * 60, (1,)), Map(2, ((0, 1),) * 60, (1,)))
        desk = Desk(chart)
        self.assertEqual(desk.tell("left"), "119")
        self.assertEqual(desk.tell("hear " + " ".join(f"{arrow}-" for arrow in range(119))), "ok")
        self.assertEqual((desk.tell("left"), desk.tell("sure"), desk.tell("lost")), ("0", "119", "119"))
        self.assertEqual(told(desk, "hear 119-"), "NoNews")
        self.assertEqual(desk.tell("hear 119+"), "ok")

    def test_desks_of_one_map(self):
        chart = Map(*EXAMPLE)
        one, other = Desk(chart), Desk(chart)
        one.tell("hear 0+")
        self.assertEqual((one.undoable(), other.undoable()), (1, 0))
        self.assertTrue(chart == Map(*EXAMPLE))


if __name__ == "__main__":
    unittest.main()
