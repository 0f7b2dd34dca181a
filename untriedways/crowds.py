"""The standings behind an evening that are not done, one by one, in their order.

There may be far too many of them to be kept, or even counted: so nothing is kept here but how
far one has come.
"""

from heapq import heappop, heappush

from untriedways.maps import goals_are_open
from untriedways.values import marks, with_items


class Lots:
    """Lots, one by one, in their order: each has all certain items, and any of the doubtful ones.

    A class below may leave out some. It lets no lot begin that cannot be ended, so the next lot
    is near, however many are left out.
    """

    def __init__(self, certain, doubtful):
        self._items = with_items(certain, doubtful)
        among = {item: True for item in doubtful}
        self._flags = [item in among for item in self._items]
        places = [at for at, flag in enumerate(self._flags) if flag]
        first = places[0] if places else len(self._items)
        self._last = places[-1] if places else -1
        # Begins of lots, the next one last, and the index of the first item that is open for each.
        self._begins = [(self._items[:first], first)]

    def next_lot(self):
        """The next one, None if there are no more."""
        while self._begins:
            lot, at = self._begins.pop()
            if at > self._last:
                return lot + self._items[at:]
            if self._goes_on(lot, at):
                return lot
        return None

    def may_have(self, lot, at):
        """Whether some lot begins so and has the doubtful item at this index next."""
        return True

    def may_lack(self, lot, at):
        """Whether some lot begins so and has nothing else up to this index, with a doubtful item."""
        return True

    def _goes_on(self, lot, at):
        """Keeps all longer begins; tells whether it is a lot as it is, which comes ahead of them."""
        longer = []
        whole = True
        while whole and at < len(self._items):
            if not self._flags[at] or self.may_have(lot, at):
                longer.append(((*lot, self._items[at]), at + 1))
            whole = self._flags[at] and self.may_lack(lot, at)
            at += 1
        longer.reverse()
        self._begins.extend(longer)
        return whole


class ReachedLots(Lots):
    """The lots of the places that can be reached behind an evening, so that each goal stays open."""

    def __init__(self, chart, rotten, heads, certain, doubtful):
        super().__init__(certain, doubtful)
        self._chart = chart
        self._rotten = rotten
        self._heads = heads
        self._always_open = goals_are_open(chart, with_items(rotten, list(heads)))

    def may_lack(self, lot, at):
        """Whether each goal is open if all places behind this index are reached."""
        if self._always_open:
            return True
        # To a place that is reached all the same no arrow is missed.
        inside = marks(self._chart.many(), lot + self._items[at + 1:])
        lost = [arrow for arrow, head in self._heads.items() if not inside[head]]
        return goals_are_open(self._chart, with_items(self._rotten, lost))


class RottenLots(Lots):
    """The lots of the arrows that can be rotten behind an evening, if it reaches certain places."""

    def __init__(self, certain, doubtful, company):
        super().__init__(certain, doubtful)
        self._company = company

    def may_have(self, lot, at):
        """Whether another arrow to the same place is sound, or may be."""
        item = self._items[at]
        # From the last one: as long as it is not decided it may be sound.
        for arrow in reversed(self._company[item]):
            if arrow != item and arrow not in lot:
                return True
        return False


class Row:
    """The standings behind a lot at which certain places are reached, and a goal is not."""

    def __init__(self, chart, standing, lot, certain, goal):
        _, rotten = standing
        self._many = chart.many()
        self._rotten = rotten
        self._heads = {arrow: chart.arrows()[arrow][1] for arrow in lot}
        self._company = _company_in(self._heads)
        doubtful = [head for head in self._heads.values() if head not in certain and head != goal]
        self._places = ReachedLots(chart, rotten, self._heads, certain, doubtful)
        self._reached = None
        self._arrows = None

    def next_standing(self):
        """The next one, None if there are no more."""
        rotten = None if self._arrows is None else self._arrows.next_lot()
        if rotten is None:
            self._reached = self._places.next_lot()
            if self._reached is None:
                return None
            self._arrows = self._rotten_lots()
            rotten = self._arrows.next_lot()
        return (self._reached, rotten)

    def _rotten_lots(self):
        inside = marks(self._many, self._reached)
        lost = [arrow for arrow, head in self._heads.items() if not inside[head]]
        doubtful = [arrow for arrow in self._company if inside[self._heads[arrow]]]
        return RottenLots(with_items(self._rotten, lost), doubtful, self._company)


class Crowd:
    """All standings behind an evening that are not done, one by one, in their order.

    None of them stands behind two of those at its begin, if a plan came to these: where their
    runs part an arrow was rotten in one and sound in the other, where nobody tries it again.
    """

    def __init__(self, chart, sent):
        self._rows = []
        for standing in sent:
            self._rows.extend(_rows_behind(chart, standing, sent[standing]))
        # The next standing of each row, and the index of the row.
        self._queue = []
        for at in range(len(self._rows)):
            self._put_next(at)

    def next_standing(self):
        """The next one, None if there are no more."""
        if not self._queue:
            return None
        standing, at = heappop(self._queue)
        self._put_next(at)
        return standing

    def _put_next(self, at):
        standing = self._rows[at].next_standing()
        if standing is not None:
            heappush(self._queue, (standing, at))


def _rows_behind(chart, standing, lot):
    """The list of the rows behind the lot, one for each goal that can be the first one to lack."""
    reached, rotten = standing
    certain = list(reached)
    found = []
    for goal in chart.goals():
        if goal not in reached:
            lost = [arrow for arrow in lot if chart.arrows()[arrow][1] == goal]
            if goals_are_open(chart, with_items(rotten, lost)):
                found.append(Row(chart, standing, lot, tuple(certain), goal))
            if not lost:
                return found
            certain.append(goal)
    return found


def _company_in(heads):
    """A dict: for each arrow that is not the only one to its head the list of all of them."""
    groups = {}
    for arrow, head in heads.items():
        groups.setdefault(head, []).append(arrow)
    return {arrow: groups[head] for arrow, head in heads.items() if len(groups[head]) > 1}
