"""Promise [26]: texts of maps and runs, with one sign changed, left out or put in, too."""

import re
import unittest

from untriedways.errors import NoRun, NoText
from untriedways.joined import behind
from untriedways.maps import Map, great_map
from untriedways.parts import turned, worst
from untriedways.runs import Party
from untriedways.standings import worth
from untriedways.tables import rest_map
from untriedways.texts import map_text, read_map, read_run, run_text
from untriedways.ties import tie_map
from tests.plain import PlainMap
from tests.samples import CHOSEN, EXAMPLE, nested, odd_values, pairs_of_maps
from tests.test_parts import random_maps

NUMBER = "(?:0|[1-9][0-9]*)"
MAP = re.compile(f"places ({NUMBER})\ngoals ({NUMBER}(?:,{NUMBER})*)((?:\narrow {NUMBER} {NUMBER})*)")
EVENING = f"{NUMBER}[+-](?: {NUMBER}[+-])*"
RUN = re.compile(f"none|{EVENING}(?:\n{EVENING})*")
# All signs that could make something of a text, and some that could not.
SIGNS = "0123456789 ,-+|\n\tplacesgoalsarrownoneX_~."
RUNS = [
    [],
    [((0, True),)],
    [((0, False), (1, True)), ((3, True), (5, True))],
    [((0, False), (10, True), (999999999, False)), ((7, True),), ((0, True), (1, False), (2, True))],
]
ODD_TEXTS = ["", " ", "\n", "None", "none ", " none", "none\n", "\nnone", "none\nnone", "NONE", "0", "+", "-", "0 +", "0+-"]


def number(word):
    """A great number for one of very many digits, which Python would not read."""
    return int(word) if len(word) <= 20 else 10 ** 20


def plain_map(text):
    """The parts of the map whose text it is, None if there is none."""
    found = MAP.fullmatch(text)
    if not found:
        return None
    many = number(found[1])
    goals = tuple(number(word) for word in found[2].split(","))
    words = [line.split(" ") for line in found[3].split("\n")[1:]]
    arrows = tuple((number(tail), number(head)) for _, tail, head in words)
    if not 2 <= many <= 400 or any(max(pair) >= many or pair[0] == pair[1] for pair in arrows):
        return None
    if list(goals) != sorted(set(goals)) or goals[0] == 0 or goals[-1] >= many:
        return None
    reached = {0}
    for _ in range(many):
        reached |= {head for tail, head in arrows if tail in reached}
    return (many, arrows, goals) if set(goals) <= reached else None


def plain_run(text):
    if not RUN.fullmatch(text):
        return None
    if text == "none":
        return []
    run = [tuple((number(word[:-1]), word[-1] == "+") for word in line.split(" ")) for line in text.split("\n")]
    for pairs in run:
        numbers = [arrow for arrow, _ in pairs]
        if numbers != sorted(set(numbers)) or numbers[-1] >= 10 ** 9:
            return None
    return run


def nearly(text):
    """The text with one sign changed, left out or put in."""
    for at in range(len(text) + 1):
        for sign in SIGNS:
            yield text[:at] + sign + text[at:]
            yield text[:at] + sign + text[at + 1:]
        yield text[:at] + text[at + 1:]


def parts_of(chart):
    return chart.many(), chart.arrows(), chart.goals()


class MapTextTest(unittest.TestCase):
    def test_the_example(self):
        text = "places 4\ngoals 3\narrow 0 1\narrow 0 2\narrow 1 2\narrow 2 1\narrow 1 3\narrow 2 3"
        self.assertEqual(map_text(Map(*EXAMPLE)), text)
        self.assertTrue(read_map(text) == Map(*EXAMPLE))

    def test_several_goals(self):
        chart = Map(12, ((0, 10), (10, 2), (10, 11)), (2, 10, 11))
        self.assertEqual(map_text(chart), "places 12\ngoals 2,10,11\narrow 0 10\narrow 10 2\narrow 10 11")

    def test_read_back(self):
        charts = [chart for chart, _ in pairs_of_maps()]
        charts += [Map(*parts) for parts in random_maps(9, 20, 30, 2) + random_maps(40, 60, 10, 3)]
        charts += [turned(Map(*EXAMPLE)), tie_map(3, ((0, 1), (1, 2)), (2,)), rest_map(Map(*EXAMPLE), ((0, 1), ()))[0]]
        for chart in charts:
            self.assertEqual(parts_of(read_map(map_text(chart))), parts_of(chart))
            self.assertEqual(plain_map(map_text(chart)), parts_of(chart))

    def test_great_maps(self):
        chart = Map(40, tuple((place, place + 1) for place in range(39)), (39,))
        line = chart
        while line.many() + 39 <= 400:
            line = behind(line, chart)
        self.assertEqual(line.many(), 391)
        self.assertTrue(read_map(map_text(line)) == line)
        line = behind(line, Map(10, chart.arrows()[:9], (9,)))
        self.assertTrue(read_map(map_text(line)) == line)
        self.assertEqual((line.many(), worst(turned(read_map(map_text(Map(2, ((0, 1),) * 60, (1,))))))), (400, 59))
        with self.assertRaises(NoText):
            read_map(map_text(behind(line, Map(2, ((0, 1),), (1,)))))
        many = great_map(2, ((0, 1), (1, 0)) * 5000, (1,))
        self.assertTrue(read_map(map_text(many)) == many)

    def test_one_sign_more_or_less(self):
        for parts in [EXAMPLE, CHOSEN[1], CHOSEN[-1], (12, ((0, 10), (10, 2), (10, 11)), (2, 11))]:
            text = map_text(Map(*parts))
            right = 0
            for other in nearly(text):
                right += self.one_map(other)
            self.assertGreater(right, 1)

    def one_map(self, text):
        """Whether it is a text of a map, by both."""
        parts = plain_map(text)
        if parts is None:
            with self.assertRaises(NoText):
                read_map(text)
            return False
        self.assertEqual(parts_of(read_map(text)), parts)
        self.assertEqual(map_text(read_map(text)), text)
        return True

    def test_chosen_texts(self):
        right = "places 4\ngoals 1,3\narrow 0 1\narrow 1 3"
        self.assertTrue(self.one_map(right))
        for old, new in [
            ("places 4", "places 04"),
            ("places 4", "places +4"),
            ("places 4", "places -4"),
            ("places 4", "places 1"),
            ("places 4", "places 0"),
            ("places 4", "places 401"),
            ("places 4", "places 3"),
            ("places 4", "places"),
            ("places 4", "places "),
            ("places 4", "places  4"),
            ("places 4", "places 4 "),
            ("places 4", " places 4"),
            ("places 4", "places 4 4"),
            ("places 4", "places 4,4"),
            ("places 4", "Places 4"),
            ("places 4", "place 4"),
            ("places 4", "places\t4"),
            ("places 4", "places 4.0"),
            ("places 4", "places 1_0"),
            ("places 4", "places 4\n"),
            ("places 4", "places " + "9" * 10),
            ("places 4", "places " + "9" * 5000),
            ("goals 1,3", "goals 3,1"),
            ("goals 1,3", "goals 1,1"),
            ("goals 1,3", "goals 0,3"),
            ("goals 1,3", "goals 2"),
            ("goals 1,3", "goals 1,2"),
            ("goals 1,3", "goals 1,4"),
            ("goals 1,3", "goals -"),
            ("goals 1,3", "goals "),
            ("goals 1,3", "goals"),
            ("goals 1,3", "goals 1, 3"),
            ("goals 1,3", "goals 1 3"),
            ("goals 1,3", "goals 1,3,"),
            ("goals 1,3", "goals ,1,3"),
            ("goals 1,3", "goals 01,3"),
            ("goals 1,3", "goals 1," + "9" * 5000),
            ("arrow 0 1", "arrow 00 1"),
            ("arrow 0 1", "arrow 0 01"),
            ("arrow 0 1", "arrow 0,1"),
            ("arrow 0 1", "arrow 0  1"),
            ("arrow 0 1", "arrow 0 1 "),
            ("arrow 0 1", "arrow 0 1 2"),
            ("arrow 0 1", "arrow 0"),
            ("arrow 0 1", "arrow 0 0"),
            ("arrow 0 1", "arrow 0 4"),
            ("arrow 0 1", "arrow 0 -1"),
            ("arrow 0 1", "arrow 0 +1"),
            ("arrow 0 1", "arrow 1 0"),
            ("arrow 0 1", "arrow " + "1" * 5000 + " 1"),
            ("arrow 0 1", "0 1"),
            ("arrow 0 1", "arrow 0 1\n"),
            ("arrow 0 1", "arrow 0 1\ngoals 3"),
        ]:
            self.assertFalse(self.one_map(right.replace(old, new)), (old, new))
        for text in ["\n" + right, right + "\n", right + "\n\n", right + " ", right.replace("\n", "\r\n"), "places 2"]:
            self.assertFalse(self.one_map(text))
        places, goals, one, other = right.split("\n")
        for lines in ((goals, places, one, other), (places, one, goals, other), (places, one, other), (goals, one, other)):
            self.assertFalse(self.one_map("\n".join(lines)))
        self.assertTrue(self.one_map("\n".join((places, goals, other, one))))
        self.assertTrue(self.one_map(right.replace("places 4", "places 400")))

    def test_what_is_no_string(self):
        for value in odd_values() + [["places 2"], ("places 2", "goals 1"), Map(*EXAMPLE), 0]:
            for call in (read_map, read_run):
                with self.assertRaises(NoText):
                    call(value)
        for text in ODD_TEXTS:
            self.assertFalse(self.one_map(text))


class RunTextTest(unittest.TestCase):
    def test_texts(self):
        self.assertEqual([run_text(run) for run in RUNS], [
            "none",
            "0+",
            "0- 1+\n3+ 5+",
            "0- 10+ 999999999-\n7+\n0+ 1- 2+",
        ])

    def test_read_back(self):
        for run in RUNS:
            self.assertEqual(read_run(run_text(run)), run)
            for pairs in read_run(run_text(run)):
                for arrow, sound in pairs:
                    self.assertEqual((type(pairs), type(arrow), type(sound)), (tuple, int, bool))
        self.assertIsNot(read_run("none"), read_run("none"))

    def test_runs_of_parties(self):
        for parts in CHOSEN:
            chart = Map(*parts)
            for world in PlainMap(*parts).worlds[::5]:
                party = Party(chart, world)
                while worth(chart, party.standing()):
                    self.assertEqual(read_run(run_text(party.run())), party.run())
                    party.send(worth(chart, party.standing()))
                self.assertEqual(plain_run(run_text(party.run())), party.run())

    def test_one_sign_more_or_less(self):
        for run in RUNS:
            right = sum(self.one_run(other) for other in nearly(run_text(run)))
            self.assertGreater(right, 0)

    def one_run(self, text):
        run = plain_run(text)
        if run is None:
            with self.assertRaises(NoText):
                read_run(text)
            return False
        self.assertEqual(read_run(text), run)
        self.assertEqual(run_text(read_run(text)), text)
        return True

    def test_chosen_texts(self):
        for text in ODD_TEXTS + [
            "0+ 0-",
            "1+ 0+",
            "0+  1+",
            " 0+",
            "0+ ",
            "0+\n",
            "\n0+",
            "0+\n\n1+",
            "00+",
            "01+",
            "-1+",
            "+1+",
            "0*",
            "0",
            "0+1+",
            "0+,1+",
            "1000000000+",
            "9" * 5000 + "+",
            "0+\nnone",
            "0+\t1+",
            "0+|1+",
        ]:
            self.assertFalse(self.one_run(text), text)
        for text in ("999999999-", "0+\n0+", "0- 1-\n0+ 1+", "none"):
            self.assertTrue(self.one_run(text))

    def test_what_is_no_run(self):
        wrong = [
            ((0, True),),
            (((0, True),),),
            [()],
            [((0, True),), ()],
            [(0, True)],
            [[(0, True)]],
            [([0, True],)],
            [((0, 1),)],
            [((True, True),)],
            [((0, True, True),)],
            [((0,),)],
            [((0, None),)],
            [(("0", True),)],
            [((0, True), (0, False))],
            [((1, True), (0, False))],
            [((-1, True),)],
            [((-1, True), (0, True))],
            [((10 ** 9, True),)],
            [((0, True), (10 ** 5000, True))],
            [((0, True),), ((-(10 ** 5000), True),)],
            "none",
            "0+",
            {0: ((0, True),)},
            [nested(29, lambda value: (value,))],
        ]
        for run in wrong + [value for value in odd_values() if value != []]:
            with self.assertRaises(NoRun):
                run_text(run)
        for evening in odd_values():
            with self.assertRaises(NoRun):
                run_text([((0, True),), evening])

    def test_no_map_is_asked(self):
        run = [((999999999, True),), ((999999999, False),)]
        self.assertEqual(run_text(run), "999999999+\n999999999-")


if __name__ == "__main__":
    unittest.main()
