"""Closures: what all baskets have that have a set, and which often sets are closed."""

from oftentogether.growing import Growing
from oftentogether.piles import count_marked, marked
from oftentogether.sets import any_ware_more, joined, lies_below


def closure(pile, some):
    # All baskets above the set have a ware just where it takes none of them away; where there is
    # no such basket, no ware does.
    runs = marked(pile)
    number = count_marked(runs, some)
    return tuple([ware for ware in range(pile[0]) if count_marked(runs, joined(some, (ware,))) == number])


def loses_by_each(some, counts, wares):
    # A longer set with the same count would be often, too, so it would be among these counts.
    return all([counts.get(longer) != counts[some] for longer in any_ware_more(some, wares)])


def closed(pile, least):
    pairs = Growing().often(pile, least)
    counts = dict(pairs)
    return tuple([pair for pair in pairs if loses_by_each(pair[0], counts, pile[0])])


def count_by(pairs, some):
    return max([number for other, number in pairs if lies_below(some, other)], default=None)
