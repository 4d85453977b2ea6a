"""Rows in time: what follows on what was taken before.

Places of moments are kept as marks, as sets of wares are: the sum of 2 ** p over the places p.
"""

from oftentogether.piles import column, columns
from oftentogether.sets import set_of


def ends(row, pattern, gap=None):
    return tuple([set_of(mark) for mark in end_marks(row, pattern, gap)])


def places(row, pattern, gap=None):
    marks = end_marks(row, pattern, gap)
    if 0 in marks:
        return None
    found = []
    place = len(row)
    for mark in reversed(marks):
        # Of the ends ahead of a place the last is the nearest in time, so it is within the gap if any is.
        place = (mark & ((1 << place) - 1)).bit_length() - 1
        found.append(place)
    return tuple(reversed(found))


def count_rows(rows, pattern, gap=None):
    return sum([many for many, row in rows if places(row, pattern, gap) is not None])


def often_rows(rows, wares, least, long=2, gap=None):
    # A moment has its basket where a run has it, so a row has columns as a pile has.
    tables = [columns((wares, row)) for many, row in rows]
    told = []
    layer = [((), [None for pair in rows])]
    for step in range(long):
        # Only an often row goes on to longer ones, as none of those has a greater count.
        layer = grown(layer, rows, tables, wares, least, gap)
        told.extend([(taken, rows_ended(rows, marks)) for taken, marks in layer])
    return tuple(told)


def grown(layer, rows, tables, wares, least, gap):
    # The layer is in order, so what grows of it is in order, too.
    found = []
    for taken, marks in layer:
        opened = [open_places(pair[1], mark, gap) for pair, mark in zip(rows, marks)]
        for ware in range(wares):
            ended = [mark & table[ware] for mark, table in zip(opened, tables)]
            if rows_ended(rows, ended) >= least:
                found.append((taken + (ware,), ended))
    return found


def rows_ended(rows, marks):
    return sum([pair[0] for pair, mark in zip(rows, marks) if mark != 0])


def end_marks(row, pattern, gap):
    marks = []
    mark = None
    for some in pattern:
        mark = open_places(row, mark, gap) & places_above(row, some)
        marks.append(mark)
    return marks


def open_places(row, ended, gap):
    if ended is None:
        # Nothing has come yet, so the first one may come anywhere.
        return every_place(row)
    found = 0
    nearest = None
    for place, moment in enumerate(row):
        if nearest is not None and (gap is None or moment[0] - nearest <= gap):
            found += 1 << place
        if (ended >> place) % 2 == 1:
            nearest = moment[0]
    return found


def places_above(row, some):
    mark = every_place(row)
    for ware in some:
        mark = mark & column(row, ware)
    return mark


def every_place(row):
    return (1 << len(row)) - 1
