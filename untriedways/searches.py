"""Searches along arrows, layer by layer, so that no map is too long for them."""

from untriedways.values import marks


def pairs_left(arrows, rotten):
    """The pairs of the arrows that are not in the lot, in their order."""
    gone = marks(len(arrows), rotten)
    return [pair for arrow, pair in enumerate(arrows) if not gone[arrow]]


def steps_from(many, pairs, sources):
    """A list: the fewest pairs that lead from the sources to each place, None where none do."""
    heads = [[] for _ in range(many)]
    for tail, head in pairs:
        heads[tail].append(head)
    steps = [None] * many
    for place in sources:
        steps[place] = 0
    layer = list(sources)
    count = 0
    while layer:
        count += 1
        fresh = []
        for place in layer:
            for head in heads[place]:
                if steps[head] is None:
                    steps[head] = count
                    fresh.append(head)
        layer = fresh
    return steps


def leads_to_all(many, pairs, places):
    """Whether the pairs lead from the start to each of the places."""
    steps = steps_from(many, pairs, (0,))
    return all([steps[place] is not None for place in places])
