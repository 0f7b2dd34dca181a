"""Runs: parties that go out in a world, and runs that were told by others."""

from untriedways.courses import Course
from untriedways.errors import NoRun, NoWorld
from untriedways.maps import is_world
from untriedways.sending import standing_behind
from untriedways.standings import begin, done_at, tries_at
from untriedways.values import is_flag, is_integer


class Party:
    """A run in a world that is told to the party alone."""

    def __init__(self, chart, world):
        if not is_world(chart, world):
            raise NoWorld()
        self._chart = chart
        self._world = world
        self._course = Course(chart)

    def send(self, lot):
        """Sends people along these arrows; tells for each whether it was sound."""
        self._course.check_lot(lot)
        flags = tuple([arrow not in self._world for arrow in lot])
        self._course.go_on(tuple(zip(lot, flags)))
        return flags

    def standing(self):
        """The standing of now."""
        return self._course.here()

    def run(self):
        """The list of the evenings with their answers."""
        return self._course.told()

    def lost(self):
        """How many were lost."""
        return self._course.count_lost()

    def evenings(self):
        """How many evenings there were."""
        return len(self._course.told())

    def sensible(self):
        """Whether each arrow that was sent was worth a try at the begin of its evening."""
        return self._course.all_worth()

    def back(self):
        """Takes back the last evening; False if there is none."""
        return self._course.go_back()

    def copy(self):
        """A party of its own with the same run behind it."""
        other = Party(self._chart, self._world)
        other._course = self._course.forked()
        return other


def run_fault(chart, thing):
    """The first thing that is wrong with a run, None if nothing is."""
    fault, _ = followed(chart, thing)
    return fault


def run_standing(chart, run):
    """The standing behind a run."""
    return standings_of(chart, run)[-1]


def standings_of(chart, run):
    """The list of the standings at the begin of a run and behind each of its evenings."""
    fault, standings = followed(chart, run)
    if fault is not None:
        raise NoRun()
    return standings


def followed(chart, thing):
    """The tuple of the fault of a run and the list of the standings ahead of it."""
    standings = [begin(chart)]
    if not has_run_form(thing):
        return (("form",), standings)
    for k, pairs in enumerate(thing):
        fault = _fault_in(chart, standings[-1], k, pairs)
        if fault is not None:
            return (fault, standings)
        behind = standing_behind(chart, standings[-1], pairs)
        if behind is None:
            return (("news", k), standings)
        standings.append(behind)
    return (None, standings)


def has_run_form(thing):
    """Whether it is a list of tuples of pairs as in a run, whatever the integers are."""
    return isinstance(thing, list) and all([_has_evening_form(evening) for evening in thing])


def _has_evening_form(thing):
    if not isinstance(thing, tuple) or len(thing) == 0:
        return False
    if not all([_is_answer(pair) for pair in thing]):
        return False
    return all([thing[k][0] < thing[k + 1][0] for k in range(len(thing) - 1)])


def _is_answer(thing):
    if not isinstance(thing, tuple) or len(thing) != 2:
        return False
    return is_integer(thing[0]) and is_flag(thing[1])


def _fault_in(chart, standing, k, pairs):
    """What is wrong with the evening at its begin, None if nothing is."""
    if done_at(chart, standing):
        return ("done", k)
    tried = tries_at(chart, standing)
    for arrow, _ in pairs:
        if arrow not in tried:
            return ("try", k, arrow)
    return None
