"""Which deeds are to be carried, so that no ring is left."""

from itertools import combinations

from wendleaf.bare import made_log
from wendleaf.errors import BadCosts
from wendleaf.numerals import is_within
from wendleaf.rings import order

GREATEST_COST = 1000000
# Up to this many deeds that read, every set of them is tried.
MOST_TRIED = 12


def carried(log, costs):
    """The numbers of the deeds that are to be carried, ascending."""
    log = made_log(log)
    _check_costs(costs, len(log[1]))
    readers = [t for t, deed in enumerate(log[1], start=1) if len(deed[1]) > 0]
    if len(readers) > MOST_TRIED:
        return _thinned(log, readers)
    return _cheapest(log, readers, costs)


def _check_costs(costs, many):
    if not isinstance(costs, tuple) or len(costs) != many:
        raise BadCosts(-1)
    for index, cost in enumerate(costs):
        if not is_within(cost, 1, GREATEST_COST):
            raise BadCosts(index)


def _thinned(log, readers):
    """All of these deeds but those that can be left out, in ascending order, without a ring."""
    taken = []
    others = []
    for t in readers:
        if _is_ringless(log, others + [t]):
            others.append(t)
        else:
            taken.append(t)
    return tuple(taken)


def _cheapest(log, readers, costs):
    """The sufficient set of these deeds with the smallest costs; the smallest one of several."""
    offers = []
    for many in range(len(readers) + 1):
        for numbers in combinations(readers, many):
            offers.append((sum([costs[t - 1] for t in numbers]), numbers))
    offers = sorted(offers)
    place = 0
    # The set of all of them is sufficient, so the search ends.
    while not _is_ringless(log, [t for t in readers if t not in offers[place][1]]):
        place += 1
    return offers[place][1]


def _is_ringless(log, numbers):
    """Whether the log has no ring if only the deeds with these numbers read."""
    many, deeds = log
    return order((many, tuple([deeds[t - 1] for t in numbers]))) is not None
