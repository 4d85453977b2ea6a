"""Kinds: wares that stand above other wares."""

from oftentogether.checks import is_within
from oftentogether.errors import NoTree
from oftentogether.growing import Growing
from oftentogether.sets import joined


def standing_above(above, ware):
    # What stands above a ware is greater than it, so on the way up the wares rise, and it ends.
    found = []
    higher = above[ware]
    while higher is not None:
        found.append(higher)
        higher = above[higher]
    return tuple(found)


def kinds_of(above, some):
    found = ()
    for ware in some:
        found = joined(found, standing_above(above, ware))
    return found


def lean(above, some):
    kinds = kinds_of(above, some)
    return tuple([ware for ware in some if ware not in kinds])


def lifted(pile, above):
    if not is_tree(above, pile[0]):
        raise NoTree("for each ware there is to be None or a greater ware of the pile")
    return (pile[0], tuple([(many, joined(basket, kinds_of(above, basket))) for many, basket in pile[1]]))


def often_kinds(pile, above, least):
    pairs = Growing().often(lifted(pile, above), least)
    return tuple([pair for pair in pairs if lean(above, pair[0]) == pair[0]])


def is_tree(thing, wares):
    if not isinstance(thing, tuple) or len(thing) != wares:
        return False
    return all([higher is None or is_within(higher, ware + 1, wares - 1) for ware, higher in enumerate(thing)])
