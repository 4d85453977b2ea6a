"""Sayings: who takes these wares takes those, too."""

from oftentogether.errors import NoShare, TooGreat
from oftentogether.growing import Growing
from oftentogether.sets import joined, met
from oftentogether.shares import reaches, share

MOST_WARES_SAID = 8


def sayings(pile, least, bound=None):
    asked = bound_of(bound)
    if pile[0] > MOST_WARES_SAID:
        raise TooGreat(MOST_WARES_SAID)
    # Only what lies in some basket has a share and a chance.
    counts = dict(Growing().often(pile, 1))
    told = []
    for whom in counts:
        said = [saying_of(whom, what, counts) for what in whats_for(whom, counts)]
        told.extend([saying for saying in said if saying[2] >= least and reaches(saying[3], asked)])
    return marked_by_following(told, pile[0])


def bound_of(thing):
    if thing is None:
        return (1, 2)
    if not isinstance(thing, tuple) or len(thing) != 2:
        raise NoShare("a bound is a tuple of a number and a number from 1 on")
    return share(thing[0], thing[1])


def whats_for(whom, counts):
    return [what for what in counts if what != () and met(whom, what) == ()]


def saying_of(whom, what, counts):
    number = counts.get(joined(whom, what), 0)
    chance = share(number * counts[()], counts[whom] * counts[what])
    return (whom, what, number, share(number, counts[whom]), chance)


def marked_by_following(told, wares):
    known = dict([((saying[0], saying[1]), True) for saying in told])
    return tuple([saying + (follows(saying, known, wares),) for saying in told])


def follows(saying, known, wares):
    # With a saying all that follow from it are told, too, as their counts and shares are no less;
    # so if this one follows from any, it follows from one that is a step away.
    return any([stronger in known for stronger in one_step_stronger(saying[0], saying[1], wares)])


def one_step_stronger(whom, what, wares):
    # The ware that what gains leaves whom, or comes from outside of both.
    return [(without(whom, ware), joined(what, (ware,))) for ware in range(wares) if ware not in what]


def without(some, ware):
    return tuple([other for other in some if other != ware])
