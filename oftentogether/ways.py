"""Way: what is often in a pile, found by counting each set."""

from oftentogether.piles import count_marked, marked
from oftentogether.sets import all_sets, order_of


def at_least(pairs, least):
    return tuple([pair for pair in pairs if pair[1] >= least])


def in_order(pairs):
    return tuple(sorted(pairs, key=lambda pair: order_of(pair[0])))


class Way:
    def often(self, pile, least):
        runs = marked(pile)
        return at_least([(some, count_marked(runs, some)) for some in all_sets(pile[0])], least)
