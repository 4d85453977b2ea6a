"""Stores: piles whose baskets come and go."""

from oftentogether.borders import greatest, seldom
from oftentogether.checks import is_within
from oftentogether.closures import closed
from oftentogether.errors import NoRun, NoStore, NotThere, TooGreat
from oftentogether.growing import Growing
from oftentogether.piles import MOST_RUNS, count, is_run
from oftentogether.sets import MOST_WARES

MOST_WINDOW = 1000000000000000


def baskets_of(runs):
    return sum([run[0] for run in runs])


def runs_like(runs, basket):
    return [run for run in runs if run[1] == basket]


def parted(runs, number, chosen=None):
    # What goes and what stays where so many of the oldest baskets go, of all or of those like the chosen one.
    gone = []
    kept = []
    left = number
    for many, basket in runs:
        going = min(many, left) if chosen is None or basket == chosen else 0
        left -= going
        if going > 0:
            gone.append((going, basket))
        if going < many:
            kept.append((many - going, basket))
    return (tuple(gone), tuple(kept))


class Store:
    def __init__(self, wares, window=None):
        if not is_within(wares, 0, MOST_WARES):
            raise NoStore("a store has a number of wares up to 12")
        if window is not None and not is_within(window, 1, MOST_WINDOW):
            raise NoStore("a window is a number from 1 to 10 ** 15, or None")
        self.wares = wares
        self.window = window
        self.runs = ()

    def put(self, many, basket):
        self.check_run(many, basket)
        if len(self.runs) >= MOST_RUNS:
            raise TooGreat(MOST_RUNS)
        runs = self.runs + ((many, basket),)
        halves = parted(runs, self.too_many(runs))
        self.runs = halves[1]
        return halves[0]

    def take(self, many, basket):
        self.check_run(many, basket)
        there = baskets_of(runs_like(self.runs, basket))
        if there < many:
            raise NotThere(there)
        self.runs = parted(self.runs, many, basket)[1]

    def check_run(self, many, basket):
        if not is_run((many, basket), self.wares):
            raise NoRun("a run is a number from 1 to 10 ** 12 and a set of the store's wares")

    def too_many(self, runs):
        return 0 if self.window is None else max(0, baskets_of(runs) - self.window)

    def pile(self):
        return (self.wares, self.runs)

    def count(self, some):
        return count(self.pile(), some)

    def often(self, least):
        return Growing().often(self.pile(), least)

    def closed(self, least):
        return closed(self.pile(), least)

    def greatest(self, least):
        return greatest(self.pile(), least)

    def seldom(self, least):
        return seldom(self.pile(), least)
