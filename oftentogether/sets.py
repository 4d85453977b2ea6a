"""Sets of wares: rising tuples of unlike numbers from 0 to 11."""

from oftentogether.checks import is_number

MOST_WARES = 12


def is_set(thing, wares=12):
    if not isinstance(thing, tuple):
        return False
    # What is no ware at all isn't one of the wares below a greater number either.
    bound = min(wares, MOST_WARES)
    if not all([is_number(ware) and ware < bound for ware in thing]):
        return False
    return all([lower < higher for lower, higher in zip(thing, thing[1:])])


def mark_of(some):
    return sum([1 << ware for ware in some])


def set_of(mark):
    return tuple([ware for ware in range(mark.bit_length()) if (mark >> ware) % 2 == 1])


def lies_below(one, other):
    return all([ware in other for ware in one])


def met(one, other):
    return tuple([ware for ware in one if ware in other])


def joined(one, other):
    return tuple(sorted(set(one) | set(other)))


def order_of(some):
    return (len(some), some)


def is_ahead(one, other):
    return order_of(one) < order_of(other)


def all_sets(wares):
    return sorted([set_of(mark) for mark in range(1 << wares)], key=order_of)


def one_ware_more(some, wares):
    # Each set comes of just one shorter one by a ware behind its last, so nobody meets it twice.
    first = some[-1] + 1 if some else 0
    return [some + (ware,) for ware in range(first, wares)]


def any_ware_more(some, wares):
    return [joined(some, (ware,)) for ware in range(wares) if ware not in some]


def one_ware_fewer(some):
    return [some[:place] + some[place + 1:] for place in range(len(some))]
