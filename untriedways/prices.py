"""Lives that have prices."""

from untriedways.errors import NoPrices
from untriedways.smallmaps import Small
from untriedways.values import is_index

MOST_PRICE = 1000000000


def cheapest(chart, prices):
    """The least sum that is enough for some plan in all worlds."""
    small = _priced(chart, prices)
    return _least_sum(small, prices, 1, 0, {})


def price_table(chart, prices):
    """The dict from all standings to the least sum that is enough from there on."""
    small = _priced(chart, prices)
    sums = {}
    _least_sum(small, prices, 1, 0, sums)
    return {small.standing_of(reached, rotten): sums[reached, rotten] for reached, rotten in sums}


def _priced(chart, prices):
    """The map for searches; refuses wrong prices, then a map that is too great."""
    if not isinstance(prices, tuple) or len(prices) != len(chart.arrows()):
        raise NoPrices()
    if not all([is_index(price, MOST_PRICE + 1) for price in prices]):
        raise NoPrices()
    return Small(chart)


def _least_sum(small, prices, reached, rotten, sums):
    """The least sum that is enough from there on; the dict gets it for each standing."""
    if (reached, rotten) not in sums:
        if small.is_home(reached):
            sums[reached, rotten] = 0
        else:
            tried = small.untried(reached, rotten)
            sums[reached, rotten] = min([
                _sum_by(small, prices, reached, rotten, sums, arrow) for arrow in tried
            ])
    return sums[reached, rotten]


def _sum_by(small, prices, reached, rotten, sums, arrow):
    """The sum that is enough if this arrow is tried first."""
    lot = 1 << arrow
    most = _least_sum(small, prices, reached | small.heads_of(lot), rotten, sums)
    if small.can_be(rotten | lot):
        most = max(most, prices[arrow] + _least_sum(small, prices, reached, rotten | lot, sums))
    return most
