"""Branching: what is often in a pile, found by going down its tree."""

from oftentogether.piles import tree
from oftentogether.sets import one_ware_more
from oftentogether.ways import Way, in_order


def gather_below(node, by_ware):
    for ware, lower in node[1]:
        by_ware.setdefault(ware, []).append(lower)
        gather_below(lower, by_ware)


def nodes_by_ware(nodes):
    by_ware = {}
    for node in nodes:
        gather_below(node, by_ware)
    return by_ware


def pairs_from(some, nodes, wares, least):
    # To these nodes the set's last ware leads, behind all others of it: wares rise on the way down,
    # so no basket goes through two of them, and what lies below them is behind the last ware.
    number = sum([node[0] for node in nodes])
    if number < least:
        return []
    found = [(some, number)]
    by_ware = nodes_by_ware(nodes)
    for longer in one_ware_more(some, wares):
        found.extend(pairs_from(longer, by_ware.get(longer[-1], []), wares, least))
    return found


class Branching(Way):
    def often(self, pile, least):
        return in_order(pairs_from((), [tree(pile)], pile[0], least))
