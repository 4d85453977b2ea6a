"""Growing: what is often in a pile, found from shorter sets to longer ones."""

from oftentogether.piles import count_marked, marked
from oftentogether.sets import one_ware_fewer, one_ware_more
from oftentogether.ways import Way, at_least


def grown(layer, wares):
    # The layer holds all often sets of one length in their order, so what grows of it is in order, too.
    known = dict([(some, True) for some in layer])
    found = []
    for some in layer:
        for longer in one_ware_more(some, wares):
            if all([shorter in known for shorter in one_ware_fewer(longer)]):
                found.append(longer)
    return found


class Growing(Way):
    def often(self, pile, least):
        return at_least(self.counted(pile, least), least)

    def counted(self, pile, least):
        runs = marked(pile)
        told = []
        layer = [()]
        while layer:
            pairs = [(some, count_marked(runs, some)) for some in layer]
            told.extend(pairs)
            layer = grown([pair[0] for pair in at_least(pairs, least)], pile[0])
        return tuple(told)
