"""Maps and odd values that several tests use."""

from itertools import combinations_with_replacement, permutations

from untriedways.base import Base
from untriedways.desk import Desk
from untriedways.errors import NoMap, NoStanding, WayError
from untriedways.maps import Map
from untriedways.recipes import Cookery
from untriedways.runs import Party

from tests.plain import PlainMap, lots_of

# The example of the document.
EXAMPLE = (4, ((0, 1), (0, 2), (1, 2), (2, 1), (1, 3), (2, 3)), (3,))

CHOSEN = [
    EXAMPLE,
    # One arrow, and several with the same two ends.
    (2, ((0, 1),), (1,)),
    (2, ((0, 1), (0, 1), (0, 1)), (1,)),
    (3, ((0, 1), (1, 2), (0, 1), (1, 2)), (2,)),
    # Arrows back to the start and out of the goal.
    (3, ((0, 1), (1, 0), (1, 2), (2, 0), (2, 1)), (2,)),
    # Dead places: 2 leads nowhere, 3 leads only back, 2 and 3 make a ring.
    (4, ((0, 1), (0, 2), (0, 3), (3, 0), (1, 3)), (1,)),
    (5, ((0, 1), (0, 2), (2, 3), (3, 2), (3, 0), (1, 4)), (4,)),
    # A place that nobody comes to, though it leads to the goal.
    (4, ((0, 1), (1, 2), (3, 2), (3, 1)), (2,)),
    # Alive at the begin, dead behind the reaching of 1.
    (4, ((0, 1), (0, 2), (2, 1), (1, 3), (1, 2)), (3,)),
    # Several goals: one behind another, side by side, and in a ring.
    (3, ((0, 1), (1, 2), (0, 2), (2, 1)), (1, 2)),
    (4, ((0, 1), (0, 2), (1, 3), (2, 3), (3, 1)), (1, 3)),
    (4, ((0, 1), (1, 2), (2, 3), (3, 1), (0, 3)), (1, 2, 3)),
]


def opens(many, arrows, goals):
    """Whether such a map can be constructed, found by constructing it."""
    try:
        Map(many, arrows, goals)
    except NoMap:
        return False
    return True


def every_small_map():
    """All maps of three places with up to three arrows, each kind of arrows in one order."""
    pairs = list(permutations(range(3), 2))
    found = []
    for size in range(1, 4):
        for arrows in combinations_with_replacement(pairs, size):
            for goals in ((1,), (2,), (1, 2)):
                if opens(3, arrows, goals):
                    found.append((3, arrows, goals))
    return found


def pairs_of_maps():
    """Each sample map, of the package and plain."""
    return [(Map(*parts), PlainMap(*parts)) for parts in CHOSEN + every_small_map()]


def nested(depth, make):
    """A value nested so deep."""
    value = make(())
    for _ in range(depth - 1):
        value = make(value)
    return value


def odd_values():
    """Values of all kinds that are allowed where something is checked; no lots of small numbers."""
    return [
        None,
        True,
        False,
        -1,
        10 ** 5000,
        -(10 ** 5000),
        "",
        "0",
        "a\tb\n~ ",
        [],
        [0],
        {},
        {0: 1},
        {"reached": (0,)},
        (None,),
        (True,),
        ("0",),
        ((), ()),
        ([], []),
        nested(30, lambda value: (value,)),
        nested(30, lambda value: [value]),
        nested(30, lambda value: (value, value)),
        nested(30, lambda value: {0: value}),
        Map(2, ((0, 1),), (1,)),
        (Map(2, ((0, 1),), (1,)), ()),
        Base(Map(2, ((0, 1),), (1,))),
        Cookery(2, (0,), (((0,), 1),), (1,)),
        [Desk(Map(2, ((0, 1),), (1,)))],
        {Party(Map(2, ((0, 1),), (1,)), ()): 0},
        {(Desk(Map(2, ((0, 1),), (1,))), ()): Cookery(2, (0,), (((0,), 1),), (1,))},
        WayError(),
        NoStanding(),
        NoMap("many"),
    ]


__all__ = ["CHOSEN", "EXAMPLE", "lots_of", "nested", "odd_values", "pairs_of_maps"]
