"""Borders: the greatest often sets and the smallest seldom ones, and how either tell the other."""

from oftentogether.growing import Growing
from oftentogether.sets import all_sets, any_ware_more, mark_of, one_ware_fewer


def greatest(pile, least):
    pairs = Growing().often(pile, least)
    known = dict(pairs)
    return tuple([pair for pair in pairs if is_greatest(pair[0], known, pile[0])])


def seldom(pile, least):
    # Growing counts no seldom set but the smallest ones.
    return tuple([pair for pair in Growing().counted(pile, least) if pair[1] < least])


def smallest_beyond(wares, sets):
    marks = [mark_of(some) for some in sets]
    known = dict([(some, True) for some in all_sets(wares) if not is_below_one(mark_of(some), marks)])
    return tuple([some for some in known if is_smallest(some, known)])


def greatest_without(wares, sets):
    marks = [mark_of(some) for some in sets]
    known = dict([(some, True) for some in all_sets(wares) if not is_above_one(mark_of(some), marks)])
    return tuple([some for some in known if is_greatest(some, known, wares)])


def is_greatest(some, known, wares):
    # With a set all that lie below it are known, so a longer one above this one shows by one ware more.
    return not any([longer in known for longer in any_ware_more(some, wares)])


def is_smallest(some, known):
    # With a set all that lie above it are known, so a shorter one below this one shows by one ware fewer.
    return not any([shorter in known for shorter in one_ware_fewer(some)])


def is_below_one(mark, marks):
    for other in marks:
        if (mark & other) == mark:
            return True
    return False


def is_above_one(mark, marks):
    for other in marks:
        if (mark & other) == other:
            return True
    return False
