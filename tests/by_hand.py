"""What several tests ask for: piles, and what they should tell, found without the program."""

import functools
import random
from itertools import combinations

from oftentogether.errors import (NoRun, NoShare, NoStore, NoText, NotThere, NoTree,
                                  OftenError, TooGreat)
from oftentogether.stores import Store

MOST = 10 ** 12
SHOP = (4, ((3, (0, 1)), (2, (0, 1, 3)), (5, ()), (1, (0, 1)), (4, (1, 3)), (7, (0,))))
REFUSALS = (NoShare, NoStore, NoRun, NoTree, NoText, NotThere, TooGreat)


class Odd:
    """A thing that may be handed in, but not asked anything."""

    def __eq__(self, other):
        raise RuntimeError("not to be compared")

    __hash__ = None

    def __lt__(self, other):
        raise RuntimeError("not to be compared")

    __gt__ = __le__ = __ge__ = __lt__

    def __bool__(self):
        raise RuntimeError("not to be asked")


def sets_in_order(wares):
    """Made without the program: shorter ones first, then by the first place where they differ."""
    return [some for size in range(wares + 1) for some in combinations(range(wares), size)]


@functools.cache
def counted_by_hand(pile):
    return [(some, sum(many for many, basket in pile[1] if set(some) <= set(basket)))
            for some in sets_in_order(pile[0])]


def often_by_hand(pile, least):
    return tuple(pair for pair in counted_by_hand(pile) if pair[1] >= least)


def counted_sets(pile, least):
    """The often sets, and the seldom ones all of whose sets of one ware fewer are often."""
    counts = counted_by_hand(pile)
    often = {some for some, number in counts if number >= least}
    return tuple((some, number) for some, number in counts
                 if all(some[:place] + some[place + 1:] in often for place in range(len(some))))


def closed_by_hand(pile, least):
    """The often sets that lose baskets by any ware more."""
    counts = dict(counted_by_hand(pile))
    return tuple(
        (some, number) for some, number in counts.items() if number >= least and all(
            counts[tuple(sorted(some + (ware,)))] < number
            for ware in range(pile[0]) if ware not in some))


def greatest_by_hand(pile, least):
    often = [pair for pair in counted_by_hand(pile) if pair[1] >= least]
    return tuple(pair for pair in often
                 if not any(set(pair[0]) < set(other) for other, number in often))


def seldom_by_hand(pile, least):
    rest = [pair for pair in counted_by_hand(pile) if pair[1] < least]
    return tuple(pair for pair in rest
                 if not any(set(other) < set(pair[0]) for other, number in rest))


def leasts_for(pile):
    """1, the count of each set, one more and one less than it, and more than there are baskets."""
    counts = {number for some, number in counted_by_hand(pile)}
    near = {number + step for number in counts for step in (-1, 0, 1)} | {1, 10 ** 60}
    return sorted(least for least in near if least >= 1)


def filled(wares, runs, window=None):
    store = Store(wares, window)
    for many, basket in runs:
        store.put(many, basket)
    return store


def random_pile(source, wares, size, manies):
    sets = sets_in_order(wares)
    return (wares, tuple((source.choice(manies), source.choice(sets)) for step in range(size)))


def small_piles():
    source = random.Random(8)
    made = []
    for wares in range(7):
        full = tuple(range(wares))
        made.append((wares, ()))
        made.append((wares, ((1, ()),)))
        made.append((wares, ((MOST, full),)))
        made.append((wares, ((3, full), (2, ()), (3, full), (1, ()))))
        made.append((wares, tuple((ware + 1, (ware,)) for ware in full)))
        made.append((wares, tuple((1, full[:ware] + full[ware + 1:]) for ware in full)))
        for size in (1, 2, 3, 8, 40):
            made.append(random_pile(source, wares, size, (1, 2, 3)))
            made.append(random_pile(source, wares, size, (1, 7, MOST - 1, MOST)))
        some = random_pile(source, wares, 4, (1, 5))
        made.append((wares, some[1] + ((2, ()),) + some[1][::-1]))
    made.append((6, tuple((MOST, basket) for basket in sets_in_order(6)) * 3))
    made.append((5, ((MOST, (0, 1, 2, 3, 4)),) * 200))
    return made + [SHOP]


def great_piles():
    source = random.Random(9)
    made = []
    for wares in range(7, 13):
        full = tuple(range(wares))
        made.append((wares, ()))
        made.append((wares, ((MOST, full),)))
        made.append((wares, ((2, full[1:]), (1, ()), (2, full[:-1]), (2, full[1:]))))
        made.append((wares, ((1, full[::2]), (1, full[1::2]), (4, full[wares // 2:]), (1, full))))
        for size in (2, 3, 6):
            made.append(random_pile(source, wares, size, (1, 2, 9, MOST)))
    return made


SMALL = small_piles()
GREAT = great_piles()


def check_pairs(case, told, wares):
    """The form of pairs as in point 8: sets of the wares, in order, none twice, each with a number."""
    case.assertIs(type(told), tuple)
    for pair in told:
        case.assertIs(type(pair), tuple)
        case.assertEqual(len(pair), 2)
        case.assertIs(type(pair[1]), int)
    check_sets(case, tuple(pair[0] for pair in told), wares)


def check_sets(case, told, wares):
    case.assertIs(type(told), tuple)
    for some in told:
        case.assertIs(type(some), tuple)
        for ware in some:
            case.assertIs(type(ware), int)
            case.assertIn(ware, range(wares))
        case.assertEqual(list(some), sorted(set(some)))
    places = [(len(some), some) for some in told]
    case.assertEqual(places, sorted(set(places)))


def check_refused(case, refusal, call, told=None):
    """The call is refused by just this class of errors.py; its error is given back."""
    try:
        answer = call()
    except ValueError as error:
        case.assertIs(type(error), refusal, told)
        case.assertIsInstance(error, OftenError)
        case.assertEqual([kind for kind in REFUSALS if isinstance(error, kind)], [refusal], told)
        return error
    return case.fail(f"not refused: {told!r}, but {answer!r} told")
