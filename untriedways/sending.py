"""What one evening does: who may go, and where one stands behind the answers."""

from untriedways.maps import goals_are_open
from untriedways.standings import tries_at
from untriedways.values import is_lot, with_item, with_items


def are_tries(chart, standing, thing):
    """Whether it is a lot of one or more tries of the standing."""
    if not is_lot(thing, len(chart.arrows())) or len(thing) == 0:
        return False
    tried = tries_at(chart, standing)
    return all([arrow in tried for arrow in thing])


def standing_behind(chart, standing, pairs):
    """The standing behind tries with these answers, None if there is none."""
    reached, rotten = standing
    heads = [chart.arrows()[arrow][1] for arrow, sound in pairs if sound]
    lost = [arrow for arrow, sound in pairs if not sound]
    behind = (with_items(reached, heads), with_items(rotten, lost))
    if lost and not goals_are_open(chart, behind[1]):
        return None
    return behind


def standings_behind(chart, standing, lot, most):
    """The list of the standings behind these tries, one for all answers that can be.

    If there are more than so many it is a list of some, but still of more than so many.
    """
    reached, rotten = standing
    found = []
    for lost in _losses(chart, rotten, lot, most):
        heads = [chart.arrows()[arrow][1] for arrow in lot if arrow not in lost]
        found.append((with_items(reached, heads), with_items(rotten, lost)))
    return found


def _losses(chart, rotten, lot, most):
    """The list of all lots of these arrows that may be lost.

    As soon as there are more than so many, all arrows that are left are taken for sound.
    """
    found = [()]
    for arrow in lot:
        if len(found) <= most:
            more = [with_item(lost, arrow) for lost in found]
            found.extend([lost for lost in more if goals_are_open(chart, with_items(rotten, lost))])
    return found


def lost_in(pairs):
    """How many of these were lost."""
    return len([arrow for arrow, sound in pairs if not sound])
