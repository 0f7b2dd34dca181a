"""What one evening does: who may go, and where one stands behind the answers."""

from untriedways.maps import goals_are_open
from untriedways.standings import tries_at
from untriedways.values import is_lot, with_items


def are_tries(chart, standing, thing):
    """Whether it is a lot of one or more tries of the standing."""
    if not is_lot(thing, len(chart.arrows())) or len(thing) == 0:
        return False
    tried = tries_at(chart, standing)
    return all([arrow in tried for arrow in thing])


def standing_behind(chart, standing, pairs):
    """The standing behind tries with these answers, None if there is none."""
    reached, rotten = standing
    heads = [chart.arrows()[arrow][1] for arrow, sound in pairs if sound]
    lost = [arrow for arrow, sound in pairs if not sound]
    behind = (with_items(reached, heads), with_items(rotten, lost))
    if lost and not goals_are_open(chart, behind[1]):
        return None
    return behind


def standings_behind(chart, standing, lot):
    """The list of the standings behind these tries, one for all answers that can be."""
    runs = [()]
    for arrow in lot:
        runs = [(*pairs, (arrow, sound)) for pairs in runs for sound in (False, True)]
    found = [standing_behind(chart, standing, pairs) for pairs in runs]
    return [behind for behind in found if behind is not None]


def lost_in(pairs):
    """How many of these were lost."""
    return len([arrow for arrow, sound in pairs if not sound])
