"""A live base: a map and a standing that change."""

from untriedways.errors import NoArrow, NoPlace
from untriedways.maps import goals_are_open, great_map
from untriedways.standings import begin, checked_news_at, holds_together, worth_at
from untriedways.tables import left_at
from untriedways.values import is_index, with_item


class Base:
    """A map and a standing of now, with all changes that can be taken back."""

    def __init__(self, chart):
        self._chart = chart
        # Like a standing, but with all arrows that were struck among those found rotten.
        self._here = begin(chart)
        self._before = []

    def chart(self):
        """The map of now."""
        return self._chart

    def standing(self):
        """The standing of now."""
        reached, gone = self._here
        arrows = self._chart.arrows()
        return (reached, tuple([arrow for arrow in gone if arrows[arrow][0] in reached]))

    def left(self):
        """The most lives that are lost from now on."""
        return left_at(self._chart, self._here)

    def worth(self):
        """The lot of the arrows that are worth a try now."""
        return worth_at(self._chart, self._here)

    def hear(self, arrow, sound):
        """News of a try."""
        self._change(self._chart, checked_news_at(self._chart, self._here, arrow, sound))

    def add(self, tail, head):
        """An arrow more, behind all others."""
        many = self._chart.many()
        if not is_index(tail, many) or not is_index(head, many) or tail == head:
            raise NoPlace()
        arrows = self._chart.arrows() + ((tail, head),)
        self._change(great_map(many, arrows, self._chart.goals()), self._here)

    def strike(self, arrow):
        """This arrow is there no more."""
        reached, gone = self._here
        if not is_index(arrow, len(self._chart.arrows())) or arrow in gone:
            raise NoArrow()
        lost = with_item(gone, arrow)
        if not holds_together(self._chart, reached, lost) or not goals_are_open(self._chart, lost):
            raise NoArrow()
        self._change(self._chart, (reached, lost))

    def back(self):
        """Takes back the last change; False if there is none."""
        if len(self._before) == 0:
            return False
        self._chart, self._here = self._before.pop()
        return True

    def changes(self):
        """How many changes can be taken back."""
        return len(self._before)

    def _change(self, chart, here):
        self._before.append((self._chart, self._here))
        self._chart = chart
        self._here = here
