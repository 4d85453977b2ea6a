"""Meeting: what is often in a pile, found by letting the columns of its wares meet."""

from oftentogether.piles import columns
from oftentogether.sets import one_ware_more
from oftentogether.ways import Way, in_order


def baskets_in(column, runs):
    return sum([run[0] for place, run in enumerate(runs) if (column >> place) % 2 == 1])


def pairs_from(some, column, pile, pile_columns, least):
    # Only an often set goes on to longer ones, as none of those has a greater count.
    number = baskets_in(column, pile[1])
    if number < least:
        return []
    found = [(some, number)]
    for longer in one_ware_more(some, pile[0]):
        meet = column & pile_columns[longer[-1]]
        found.extend(pairs_from(longer, meet, pile, pile_columns, least))
    return found


class Meeting(Way):
    def often(self, pile, least):
        all_runs = (1 << len(pile[1])) - 1
        return in_order(pairs_from((), all_runs, pile, columns(pile), least))
