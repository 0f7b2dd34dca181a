"""What counts as an integer, a flag, an index and a lot."""


def is_integer(thing):
    """Whether it is an integer; a flag is none."""
    return isinstance(thing, int) and not isinstance(thing, bool)


def is_flag(thing):
    """Whether it is True or False."""
    return isinstance(thing, bool)


def is_index(thing, many):
    """Whether it is one of the integers from 0 on below many."""
    return is_integer(thing) and 0 <= thing < many


def is_number(thing, least):
    """Whether it is an integer, this one or a greater one."""
    return is_integer(thing) and thing >= least


def is_any_lot(thing):
    """Whether it is a strictly ascending tuple of integers from 0 on."""
    if not isinstance(thing, tuple):
        return False
    last = -1
    for item in thing:
        if not is_integer(item) or item <= last:
            return False
        last = item
    return True


def is_lot(thing, many):
    """Whether it is a strictly ascending tuple of integers from 0 on below many."""
    return is_any_lot(thing) and (len(thing) == 0 or thing[-1] < many)


def with_item(lot, item):
    """The lot with one item more, which it lacks."""
    return tuple(sorted([*lot, item]))


def with_items(lot, fresh):
    """The lot with more items, some of which it may have."""
    return tuple(sorted(set([*lot, *fresh])))


def marks(many, lot):
    """A list of flags: for each integer below many whether the lot has it."""
    marked = [False] * many
    for item in lot:
        marked[item] = True
    return marked
