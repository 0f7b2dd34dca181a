"""The foe, who answers so that every plan loses the excess of a part."""

from untriedways.courses import Course
from untriedways.errors import NoNumber
from untriedways.parts import check_part
from untriedways.plans import asked
from untriedways.standings import done_at
from untriedways.values import is_number


class Foe:
    """Answers for a world that is not there yet."""

    def __init__(self, chart, part, most):
        check_part(chart, part)
        if most is not None and not is_number(most, 0):
            raise NoNumber()
        self._arrows = chart.arrows()
        self._within = part[1]
        self._most = most
        self._course = Course(chart)

    def hear(self, lot):
        """Tells for each of these arrows whether it is sound."""
        self._course.check_lot(lot)
        _, rotten = self._course.here()
        lost = list(rotten)
        flags = []
        for arrow in lot:
            sound = self._answer(arrow, lost)
            flags.append(sound)
            if not sound:
                lost.append(arrow)
        self._course.go_on(tuple(zip(lot, flags)))
        return tuple(flags)

    def standing(self):
        """The standing of now."""
        return self._course.here()

    def run(self):
        """The list of the evenings with their answers."""
        return self._course.told()

    def lost(self):
        """How many were lost."""
        return self._course.count_lost()

    def back(self):
        """Takes back the last evening; False if there is none."""
        return self._course.go_back()

    def world(self):
        """A world in which just this would have been answered."""
        _, rotten = self._course.here()
        return rotten

    def _answer(self, arrow, lost):
        """Whether the arrow is sound, these being lost already."""
        if self._most is not None and len(lost) >= self._most:
            return True
        if arrow not in self._within:
            return False
        _, head = self._arrows[arrow]
        others = [other for other in self._within if other != arrow and self._arrows[other][1] == head]
        return all([other in lost for other in others])


def led_by_foe(chart, part, plan):
    """Leads the plan until the standing is done: the tuple (lost, run, world)."""
    foe = Foe(chart, part, None)
    while not done_at(chart, foe.standing()):
        foe.hear(asked(chart, plan, foe.standing()))
    return (foe.lost(), foe.run(), foe.world())
