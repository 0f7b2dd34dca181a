"""Plans: leading them in a world, and those that have names."""

from untriedways.errors import NoName, NoPlan
from untriedways.runs import Party
from untriedways.sending import are_tries
from untriedways.standings import check_standing, done_at, steps_to_go, worth_at

NAMES = ("first", "last", "all", "near", "far")


def walk(chart, world, plan):
    """Sends by the plan until the standing is done: the tuple (lost, run)."""
    party = Party(chart, world)
    while not done_at(chart, party.standing()):
        party.send(asked(chart, plan, party.standing()))
    return (party.lost(), party.run())


def asked(chart, plan, standing):
    """What the plan gives for the standing, which is not done."""
    lot = plan(standing)
    if not are_tries(chart, standing, lot):
        raise NoPlan()
    return lot


def sent_by(chart, name, standing):
    """What the plan of this name sends, () for a standing that is done."""
    if not isinstance(name, str) or name not in NAMES:
        raise NoName()
    check_standing(chart, standing)
    worthy = worth_at(chart, standing)
    if len(worthy) == 0 or name == "all":
        return worthy
    if name == "first":
        return (worthy[0],)
    if name == "last":
        return (worthy[-1],)
    steps = steps_to_go(chart, standing)
    numbers = [steps[chart.arrows()[arrow][1]] for arrow in worthy]
    best = min(numbers) if name == "near" else max(numbers)
    return (worthy[numbers.index(best)],)
