"""A desk at which a map and a run are kept, and asked by lines."""

from untriedways.courses import Course
from untriedways.errors import NoLine, NoNews, NothingDone
from untriedways.plans import sent_by
from untriedways.sending import standing_behind
from untriedways.standings import alive_at, sure, worth_at
from untriedways.tables import left_at
from untriedways.texts import answer_in, lot_text, number_of, run_text

DONE = "ok"


class Desk:
    """A map and a run that goes on."""

    def __init__(self, chart):
        self._chart = chart
        self._course = Course(chart)

    def tell(self, line):
        """Does one line; returns what there is to tell."""
        if not isinstance(line, str) or "\n" in line:
            raise NoLine()
        words = line.split(" ")
        if len(words) == 1:
            return self._tell_of(line)
        if words[0] == "advise" and len(words) == 2 and words[1] != "":
            return lot_text(sent_by(self._chart, words[1], self._course.here()))
        if words[0] == "hear":
            return self._hear(_answers_in(words[1:]))
        raise NoLine()

    def undoable(self):
        """How many evenings there are."""
        return len(self._course.told())

    def _tell_of(self, word):
        here = self._course.here()
        if word == "undo":
            return self._undo()
        if word == "worth":
            return lot_text(worth_at(self._chart, here))
        if word == "sure":
            return lot_text(sure(self._chart, here))
        if word == "dead":
            return lot_text(self._dead(here))
        if word == "left":
            return str(left_at(self._chart, here))
        if word == "lost":
            return str(self._course.count_lost())
        if word == "evenings":
            return str(self.undoable())
        if word == "run":
            return run_text(self._course.told()).replace("\n", "|")
        raise NoLine()

    def _hear(self, answers):
        arrows = tuple([number_of(digits) for digits, _ in answers])
        self._course.check_lot(arrows)
        pairs = tuple([(arrows[k], sound) for k, (_, sound) in enumerate(answers)])
        if standing_behind(self._chart, self._course.here(), pairs) is None:
            raise NoNews()
        self._course.go_on(pairs)
        return DONE

    def _undo(self):
        if not self._course.go_back():
            raise NothingDone()
        return DONE

    def _dead(self, here):
        """The lot of the unreached places that are not alive."""
        reached, _ = here
        living = alive_at(self._chart, here)
        return tuple([
            place for place in range(self._chart.many()) if place not in reached and place not in living
        ])


def _answers_in(words):
    """The list of the answers that the words tell; refuses other words, and arrows not ascending."""
    answers = [answer_in(word) for word in words]
    if None in answers:
        raise NoLine()
    # Arrows may have any number of digits: the one with more of them is the greater one.
    ranks = [(len(digits), digits) for digits, _ in answers]
    if not all([ranks[k] < ranks[k + 1] for k in range(len(ranks) - 1)]):
        raise NoLine()
    return answers
