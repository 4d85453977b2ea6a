"""Piles of baskets: their counts, their columns and their trees."""

from oftentogether.checks import is_within
from oftentogether.sets import MOST_WARES, is_set, lies_below, mark_of

MOST_RUNS = 200
MOST_MANY = 1000000000000


def is_run(thing, wares):
    if not isinstance(thing, tuple) or len(thing) != 2:
        return False
    return is_within(thing[0], 1, MOST_MANY) and is_set(thing[1], wares)


def is_pile(thing):
    if not isinstance(thing, tuple) or len(thing) != 2:
        return False
    wares = thing[0]
    runs = thing[1]
    if not is_within(wares, 0, MOST_WARES):
        return False
    if not isinstance(runs, tuple) or len(runs) > MOST_RUNS:
        return False
    return all([is_run(run, wares) for run in runs])


def count(pile, some):
    return sum([many for many, basket in pile[1] if lies_below(some, basket)])


def marked(pile):
    # Who counts many sets of one pile asks the marks, as that is far quicker than ware by ware.
    return [(many, mark_of(basket)) for many, basket in pile[1]]


def count_marked(marked_runs, some):
    mark = mark_of(some)
    return sum([many for many, basket in marked_runs if (basket & mark) == mark])


def columns(pile):
    return tuple([column(pile[1], ware) for ware in range(pile[0])])


def column(runs, ware):
    return sum([1 << place for place, run in enumerate(runs) if ware in run[1]])


def tree(pile):
    return node_of(pile[1], 0)


def node_of(runs, depth):
    # The baskets of these runs are alike in their first wares, as many as depth tells.
    parted = {}
    for run in runs:
        basket = run[1]
        if len(basket) > depth:
            parted.setdefault(basket[depth], []).append(run)
    branches = [(ware, node_of(parted[ware], depth + 1)) for ware in sorted(parted)]
    return (sum([run[0] for run in runs]), tuple(branches))
