"""Maps joined to great ones, stacks of maps, and maps with an arrow more or less."""

from untriedways.cores import check_counted
from untriedways.errors import NoArrow, NoNumber, NoStack
from untriedways.evenings import longest
from untriedways.maps import Map, goals_are_open, great_map
from untriedways.parts import check_one_goal, worst
from untriedways.values import is_index, is_number
from untriedways.wholeways import ways

BEHIND = "behind"
BESIDE = "beside"
MOST_STACKS = 6
DEEPEST = 6
GREATEST = 10 ** 30


def behind(one, other):
    """The map in which the goal of the first map is the start of the second one."""
    check_one_goal(one)
    check_one_goal(other)
    many = one.many() + other.many() - 1
    return _joined(one, other, [one.goals()[0]] + list(range(one.many(), many)), many)


def beside(one, other):
    """The map in which both starts are one place, and both goals."""
    check_one_goal(one)
    check_one_goal(other)
    many = one.many() + other.many() - 2
    new = [0] + list(range(one.many(), many))
    new.insert(other.goals()[0], one.goals()[0])
    return _joined(one, other, new, many)


def _joined(one, other, new, many):
    """The map of both, the places of the other one having these new numbers."""
    arrows = tuple([(new[tail], new[head]) for tail, head in other.arrows()])
    return great_map(many, one.arrows() + arrows, (new[other.goals()[0]],))


def stack_worst(stack):
    """The worst of the joined map."""
    _check_stack(stack)
    return _folded(stack, worst, _join_worst, {})


def stack_longest(stack):
    """How many arrows a longest way of the joined map has."""
    _check_stack(stack)
    return _folded(stack, _count_longest, _join_longest, {})


def stack_ways(stack, modulus):
    """How many ways the joined map has, modulo this number."""
    _check_stack(stack)
    if not is_number(modulus, 1) or modulus > GREATEST:
        raise NoNumber()

    def unite(word, numbers, times):
        return _join_ways(word, numbers, times, modulus)

    return _folded(stack, _count_ways, unite, {}) % modulus


def raises(chart, arrow):
    """By how much the worst grows if there is one arrow more like this one."""
    _check_arrow(chart, arrow)
    arrows = chart.arrows() + (chart.arrows()[arrow],)
    return worst(great_map(chart.many(), arrows, chart.goals())) - worst(chart)


def lowers(chart, arrow):
    """By how much the worst falls without this arrow, None if a goal cannot be come to then."""
    _check_arrow(chart, arrow)
    check_counted(chart)
    if not goals_are_open(chart, (arrow,)):
        return None
    arrows = chart.arrows()[:arrow] + chart.arrows()[arrow + 1:]
    return worst(chart) - worst(great_map(chart.many(), arrows, chart.goals()))


def _check_arrow(chart, arrow):
    if not is_index(arrow, len(chart.arrows())):
        raise NoArrow()


def _check_stack(thing):
    if not _is_stack(thing, DEEPEST):
        raise NoStack()


def _is_stack(thing, deep):
    """Whether it is a stack in which at most so many tuples lie one in another."""
    if isinstance(thing, Map):
        return len(thing.goals()) == 1
    if deep == 0 or not isinstance(thing, tuple) or len(thing) != 3:
        return False
    word, stacks, times = thing
    if word not in (BEHIND, BESIDE):
        return False
    if not isinstance(stacks, tuple) or not 1 <= len(stacks) <= MOST_STACKS:
        return False
    if not is_number(times, 1) or times > GREATEST:
        return False
    for one in stacks:
        if not _is_stack(one, deep - 1):
            return False
    return True


def _folded(stack, of_map, unite, known):
    """The number of a stack, out of the numbers of its maps; the same map is asked once."""
    if isinstance(stack, Map):
        key = (stack.many(), stack.arrows(), stack.goals())
        if key not in known:
            known[key] = of_map(stack)
        return known[key]
    word, stacks, times = stack
    return unite(word, [_folded(one, of_map, unite, known) for one in stacks], times)


def _join_worst(word, numbers, times):
    total = sum(numbers) * times
    # Beside one another there is one more for each map beyond the first.
    return total if word == BEHIND else total + len(numbers) * times - 1


def _join_longest(word, numbers, times):
    return sum(numbers) * times if word == BEHIND else max(numbers)


def _join_ways(word, numbers, times, modulus):
    if word == BESIDE:
        return sum(numbers) * times % modulus
    count = 1
    for number in numbers:
        count = count * number % modulus
    return _power(count, times, modulus)


def _power(base, exponent, modulus):
    """The power modulo a number, by squaring."""
    found = 1
    square = base
    while exponent > 0:
        if exponent & 1:
            found = found * square % modulus
        square = square * square % modulus
        exponent = exponent >> 1
    return found


def _count_longest(chart):
    return len(longest(chart))


def _count_ways(chart):
    return len(ways(chart))
