"""What is left behind a standing, and tables that show how many lives are enough."""

from untriedways.cores import check_counted
from untriedways.errors import Done, NoNumber, TooMany
from untriedways.maps import great_map
from untriedways.parts import worst
from untriedways.standings import alive_at, begin, check_standing, done_at, is_standing, news_at, worth_at
from untriedways.values import is_number, marks

MOST_STANDINGS = 2000


def rest_map(chart, standing):
    """The tuple of the rest, of its places on the map, and of its arrows on the map."""
    check_standing(chart, standing)
    if done_at(chart, standing):
        raise Done()
    return _rest_at(chart, standing)


def left(chart, standing):
    """The most lives that are lost from there on."""
    check_standing(chart, standing)
    return left_at(chart, standing)


def left_at(chart, standing):
    """The most lives that are lost from what is known to be a standing on."""
    if done_at(chart, standing):
        return 0
    rest, _, _ = _rest_at(chart, standing)
    return worst(rest)


def table(chart):
    """The dict from all standings of sensible plans that send one at a time to what is left."""
    check_counted(chart)
    news = _news_from_begin(chart)
    lefts = {}
    # Each standing comes behind those from which one comes to it, so the last ones go first.
    for standing in reversed(list(news)):
        lefts[standing] = _left_by_news(news[standing], lefts)
    return lefts


def table_fault(chart, lives, thing):
    """The first reason why the table does not show that so many lives are enough, or None."""
    if not is_number(lives, 1):
        raise NoNumber()
    if not isinstance(thing, dict) or not all([_is_row(chart, key, thing[key]) for key in thing]):
        return ("form",)
    first = begin(chart)
    if first not in thing or thing[first] >= lives:
        return ("begin",)
    for standing in sorted(list(thing)):
        for arrow, sound, behind in worth_news(chart, standing):
            if behind not in thing:
                return ("lacks", standing, arrow, sound)
            if thing[behind] > thing[standing] or (not sound and thing[behind] == thing[standing]):
                return ("falls", standing, arrow, sound)
    return None


def worth_news(chart, standing):
    """The list of all news of arrows that are worth a try, with the standing behind, in order."""
    found = []
    for arrow in worth_at(chart, standing):
        for sound in (False, True):
            behind = news_at(chart, standing, arrow, sound)
            if behind is not None:
                found.append((arrow, sound, behind))
    return found


def _is_row(chart, key, number):
    return is_standing(chart, key) and is_number(number, 0)


def _rest_at(chart, standing):
    reached, rotten = standing
    living = alive_at(chart, standing)
    new = {place: k + 1 for k, place in enumerate(living)}
    start = {place: 0 for place in reached}
    tails = {**start, **new}
    gone = marks(len(chart.arrows()), rotten)
    kept = [
        arrow
        for arrow, (tail, head) in enumerate(chart.arrows())
        if not gone[arrow] and tail in tails and head in new
    ]
    pairs = [chart.arrows()[arrow] for arrow in kept]
    arrows = tuple([(tails[tail], new[head]) for tail, head in pairs])
    goals = tuple([new[goal] for goal in chart.goals() if goal in new])
    return (great_map(len(living) + 1, arrows, goals), (None, *living), tuple(kept))


def _news_from_begin(chart):
    """A dict: for all standings of a table, by the number of the news, the news there."""
    first = begin(chart)
    found = {first: worth_news(chart, first)}
    layer = [first]
    while layer:
        fresh = []
        for standing in layer:
            told = found[standing]
            for _, _, behind in told:
                if behind not in found:
                    found[behind] = worth_news(chart, behind)
                    fresh.append(behind)
                if len(found) > MOST_STANDINGS:
                    raise TooMany(MOST_STANDINGS)
        layer = fresh
    return found


def _left_by_news(news, lefts):
    """What is left by what is left behind the news of any one arrow, 0 if there are none.

    By the main fact an arrow that is worth a try gives nothing away by one of its answers.
    """
    numbers = [
        lefts[behind] if sound else lefts[behind] + 1
        for arrow, sound, behind in news
        if arrow == news[0][0]
    ]
    return max(numbers, default=0)
