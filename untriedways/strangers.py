"""Strangers' plans: what is wrong with them, and what they lose."""

from untriedways.cores import bits
from untriedways.crowds import Crowd
from untriedways.errors import NoNumber, TooMany
from untriedways.foes import led_by_foe
from untriedways.maps import goals_are_open
from untriedways.parts import part
from untriedways.plans import asked
from untriedways.sending import standing_behind, standings_behind
from untriedways.smallmaps import packed
from untriedways.standings import begin, done_at, steps_to_go
from untriedways.values import is_number

MOST_STANDINGS = 2000
MOST_ARROWS = 12


def judged(chart, plan):
    """The first standing at which the plan is not sensible, with the least such arrow, or None."""
    _, found = _led_everywhere(chart, plan, True)
    return found


def refuted(chart, lives, plan):
    """A run in which the plan loses so many lives, with its world, if the foe finds one, or None."""
    if not is_number(lives, 1):
        raise NoNumber()
    lost, run, world = led_by_foe(chart, part(chart), plan)
    return None if lost < lives else (run, world)


def most_lost(chart, plan):
    """The most that the plan loses in any world."""
    sent, _ = _led_everywhere(chart, plan, False)
    return max([len(rotten) for _, rotten in sent])


def most_evenings(chart, plan):
    """The most evenings that the plan needs in any world."""
    sent, _ = _led_everywhere(chart, plan, False)
    numbers = {begin(chart): 0}
    # Each evening makes a standing greater, so all evenings ahead of one are known at it.
    rows = sorted([(len(reached) + len(rotten), (reached, rotten)) for reached, rotten in sent])
    for _, standing in rows:
        for behind in standings_behind(chart, standing, sent[standing], MOST_STANDINGS):
            # A standing that is done stands behind itself.
            if behind != standing:
                numbers[behind] = max(numbers.get(behind, 0), numbers[standing] + 1)
    return max(list(numbers.values()))


def spread(chart, plan):
    """The list of the numbers of worlds in which the plan loses 0, 1, 2 .. lives."""
    lost = list(_losses(chart, plan).values())
    return [len([number for number in lost if number == lives]) for lives in range(max(lost) + 1)]


def weighed_up(chart, one, other):
    """The numbers of worlds in which the one plan loses fewer, as many, and more."""
    ours = _losses(chart, one)
    theirs = _losses(chart, other)
    ahead = len([world for world in ours if ours[world] < theirs[world]])
    level = len([world for world in ours if ours[world] == theirs[world]])
    return (ahead, level, len(ours) - ahead - level)


def worst_worlds(chart, plan):
    """The ascending list of all worlds in which the plan loses the most."""
    lost = _losses(chart, plan)
    most = max(list(lost.values()))
    return sorted([tuple(bits(world)) for world in lost if lost[world] == most])


def _led_everywhere(chart, plan, strict):
    """Leads the plan by all answers, evening by evening.

    The tuple of a dict from all standings to which it comes to what it sends there, () if one is
    done; and of the first standing with an arrow that is not worth a try, which ends it, if it is
    strict, or None.
    """
    sent = {}
    layer = {begin(chart): True}
    while layer:
        found = _ask_all(chart, plan, layer, sent, strict)
        if found is not None:
            return (sent, found)
        fresh = _next_layer(chart, layer, sent)
        if fresh is None:
            _ask_crowd(chart, plan, {one: sent[one] for one in layer}, strict)
            raise TooMany(MOST_STANDINGS)
        layer = fresh
    return (sent, None)


def _ask_all(chart, plan, layer, sent, strict):
    """Asks the plan at these standings, in order; if it is strict, up to an arrow not worth a try."""
    for standing in sorted(list(layer)):
        sent[standing] = () if done_at(chart, standing) else asked(chart, plan, standing)
        worthless = _worthless(chart, standing, sent[standing]) if strict else []
        if worthless:
            return (standing, worthless[0])
    return None


def _ask_crowd(chart, plan, sent, strict):
    """Asks the plan at all standings behind what it sent in an evening, as _ask_all does.

    However many they are: that it is wrong at one of them comes ahead of their number.
    """
    crowd = Crowd(chart, sent)
    standing = crowd.next_standing()
    while standing is not None:
        lot = asked(chart, plan, standing)
        if strict and _worthless(chart, standing, lot):
            return
        standing = crowd.next_standing()


def _worthless(chart, standing, lot):
    """The list of the tries of the lot that are not worth it."""
    steps = steps_to_go(chart, standing)
    return [arrow for arrow in lot if steps[chart.arrows()[arrow][1]] is None]


def _next_layer(chart, layer, sent):
    """A dict of all new standings behind the next evening, None if they are too many."""
    fresh = {}
    for standing in layer:
        for behind in standings_behind(chart, standing, sent[standing], MOST_STANDINGS):
            if behind not in sent:
                fresh[behind] = True
        if len(sent) + len(fresh) > MOST_STANDINGS:
            return None
    return fresh


def _losses(chart, plan):
    """A dict from all worlds, as bits, to the lives that the plan loses there."""
    many = len(chart.arrows())
    if many > MOST_ARROWS:
        raise TooMany(MOST_ARROWS)
    worlds = [world for world in range(1 << many) if goals_are_open(chart, tuple(bits(world)))]
    sent = {}
    lost = {}
    groups = [(begin(chart), worlds)]
    while groups:
        standing, fitting = groups.pop()
        if done_at(chart, standing):
            _, rotten = standing
            lost.update({world: len(rotten) for world in fitting})
        else:
            if standing not in sent:
                sent[standing] = asked(chart, plan, standing)
            groups.extend(_parted(chart, standing, sent[standing], fitting))
    return lost


def _parted(chart, standing, lot, worlds):
    """The list of tuples of a standing behind the lot and the list of the worlds that lead there."""
    kept = packed(lot)
    groups = {}
    for world in worlds:
        groups.setdefault(world & kept, []).append(world)
    found = []
    for lost in groups:
        pairs = [(arrow, not lost >> arrow & 1) for arrow in lot]
        found.append((standing_behind(chart, standing, pairs), groups[lost]))
    return found
