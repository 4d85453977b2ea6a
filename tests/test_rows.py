"""Points 25 to 28, and point 2 as far as it speaks of rows in time."""

import random
import unittest
from itertools import combinations, product

from oftentogether.rows import count_rows, ends, often_rows, places
from tests.by_hand import MOST, sets_in_order

ROW = ((0, (0,)), (3, (0, 1)), (4, (1,)), (9, (1, 2)), (15, (0, 2)))
GAPS = (None, 0, 1, 2, 3, 5, 8, MOST, 10 ** 60)


def random_row(source, wares, size, step=4):
    time = source.choice((0, 1, 7))
    row = []
    for place in range(size):
        row.append((time, source.choice(sets_in_order(wares))))
        time += source.randint(1, step)
    return tuple(row)


def random_pattern(source, wares, size):
    sets = sets_in_order(wares)[1:]
    return tuple(source.choice(sets[:wares] + sets) for step in range(size))


def fits(row, chosen, pattern, gap):
    """Whether the pattern comes at just these places."""
    return (all(set(some) <= set(row[place][1]) for place, some in zip(chosen, pattern))
            and all(one < other for one, other in zip(chosen, chosen[1:]))
            and (gap is None or all(row[other][0] - row[one][0] <= gap
                                    for one, other in zip(chosen, chosen[1:]))))


def all_fits(row, pattern, gap):
    """Every choice of moments is tried."""
    return [chosen for chosen in combinations(range(len(row)), len(pattern))
            if fits(row, chosen, pattern, gap)]


def ends_by_hand(row, pattern, gap):
    return tuple(tuple(sorted({chosen[-1] for chosen in all_fits(row, pattern[:size], gap)}))
                 for size in range(1, len(pattern) + 1))


def ends_step_by_step(row, pattern, gap):
    """For long rows: each end against each end of one set fewer."""
    told = []
    for some in pattern:
        found = [place for place, moment in enumerate(row) if set(some) <= set(moment[1])]
        if told:
            found = [place for place in found
                     if any(fits(row, (other, place), ((), some), gap) for other in told[-1])]
        told.append(tuple(found))
    return tuple(told)


def count_by_hand(rows, pattern, gap):
    return sum(many for many, row in rows if ends_step_by_step(row, pattern, gap)[-1])


def often_rows_by_hand(rows, wares, least, long, gap):
    counts = [(taken, count_by_hand(rows, tuple((ware,) for ware in taken), gap))
              for size in range(1, long + 1) for taken in product(range(wares), repeat=size)]
    return tuple(pair for pair in counts if pair[1] >= least)


def small_rows():
    source = random.Random(25)
    return [random_row(source, wares, size) for wares in (1, 2, 3) for size in range(8) for step in range(3)]


SMALL_ROWS = small_rows()


def many_rows(source, wares, size, longest=7):
    return tuple((source.choice((1, 2, 3, MOST)), random_row(source, wares, source.randint(0, longest)))
                 for step in range(size))


class Ends(unittest.TestCase):
    def test_by_hand(self):
        asked = (
            (((0,),), None, ((0, 1, 4),)),
            (((0,), (1,)), None, ((0, 1, 4), (1, 2, 3))),
            (((0,), (1,)), 3, ((0, 1, 4), (1, 2))),
            (((0,), (1,)), 6, ((0, 1, 4), (1, 2, 3))),
            (((0,), (1,)), 1, ((0, 1, 4), (2,))),
            (((0,), (1,)), 0, ((0, 1, 4), ())),
            (((0,), (1,), (1,)), 4, ((0, 1, 4), (1, 2), (2,))),
            (((0,), (1,), (1,)), 5, ((0, 1, 4), (1, 2), (2, 3))),
            (((0, 1), (2,), (2,)), None, ((1,), (3, 4), (4,))),
            (((2,), (1,), (0,)), None, ((3, 4), (), ())),
            (((0, 1, 2), (0,)), None, ((), ())),
            (((1, 2), (0, 2)), 6, ((3,), (4,))),
            (((1, 2), (0, 2)), 5, ((3,), ())))
        for pattern, gap, told in asked:
            self.assertEqual(ends(ROW, pattern, gap), told, (pattern, gap))

    def test_all_moments_tried(self):
        source = random.Random(26)
        for row in SMALL_ROWS:
            for size in range(1, 7):
                pattern = random_pattern(source, 3, size)
                for gap in GAPS:
                    self.assertEqual(ends(row, pattern, gap), ends_by_hand(row, pattern, gap),
                                     (row, pattern, gap))

    def test_patterns_that_come_often(self):
        source = random.Random(27)
        for size in range(1, 7):
            for gap in GAPS:
                row = random_row(source, 2, 10, 3)
                pattern = tuple((source.choice((0, 1)),) for step in range(size))
                self.assertEqual(ends(row, pattern, gap), ends_by_hand(row, pattern, gap), (row, pattern, gap))

    def test_long_rows(self):
        source = random.Random(28)
        for gap in (None, 0, 2, 7, 40):
            for size in range(1, 7):
                row = random_row(source, 3, 60)
                pattern = random_pattern(source, 3, size)
                self.assertEqual(ends(row, pattern, gap), ends_step_by_step(row, pattern, gap))

    def test_without_a_gap_is_the_gap_none(self):
        for row in SMALL_ROWS:
            self.assertEqual(ends(row, ((0,), (0,))), ends_by_hand(row, ((0,), (0,)), None))

    def test_the_row_without_moments(self):
        for size in range(1, 7):
            for gap in (None, 0, 5):
                self.assertEqual(ends((), ((0,),) * size, gap), ((),) * size)

    def test_the_gap_is_from_one_to_the_next_not_from_the_first(self):
        row = tuple((5 * place, (0,)) for place in range(6))
        self.assertEqual(ends(row, ((0,),) * 6, 5)[-1], (5,))
        self.assertEqual(ends(row, ((0,),) * 6, 4)[1:], ((),) * 5)

    def test_a_later_moment_may_be_nearer(self):
        row = ((0, (0,)), (1, (1,)), (8, (1,)), (10, (2,)))
        self.assertEqual(ends(row, ((0,), (1,), (2,)), 2), ((0,), (1,), ()))
        self.assertEqual(ends(row, ((0,), (1,), (2,)), 8), ((0,), (1, 2), (3,)))
        self.assertEqual(ends(row, ((0,), (1,), (2,)), 7), ((0,), (1,), ()))

    def test_one_moment_is_not_taken_twice(self):
        self.assertEqual(ends(((3, (0, 1)),), ((0,), (1,))), ((0,), ()))
        self.assertEqual(ends(((3, (0, 1)),), ((0,), (0,)), 9), ((0,), ()))

    def test_great_times(self):
        row = ((0, (0,)), (MOST - 1, (0,)), (MOST, (0,)))
        self.assertEqual(ends(row, ((0,), (0,)), MOST - 2), ((0, 1, 2), (2,)))
        self.assertEqual(ends(row, ((0,), (0,)), MOST - 1), ((0, 1, 2), (1, 2)))
        self.assertEqual(ends(row, ((0,), (0,), (0,)), 1), ((0, 1, 2), (2,), ()))

    def test_all_wares(self):
        full = tuple(range(12))
        row = tuple((time, full) for time in range(60))
        told = ends(row, (full,) * 6, 1)
        self.assertEqual(told, tuple(tuple(range(size, 60)) for size in range(6)))

    def test_the_form(self):
        for row in SMALL_ROWS:
            told = ends(row, ((0,), (0,), (0, 1)), 3)
            self.assertIs(type(told), tuple)
            self.assertEqual(len(told), 3)
            for some in told:
                self.assertIs(type(some), tuple)
                self.assertEqual(list(some), sorted(set(some)))
                self.assertTrue(all(type(place) is int and place in range(len(row)) for place in some))


class Places(unittest.TestCase):
    def check_places(self, row, pattern, gap, comes):
        told = places(row, pattern, gap)
        if not comes:
            self.assertIsNone(told, (row, pattern, gap))
            return
        self.assertIs(type(told), tuple)
        self.assertEqual(len(told), len(pattern))
        self.assertTrue(all(type(place) is int and place in range(len(row)) for place in told))
        self.assertTrue(fits(row, told, pattern, gap), (row, pattern, gap, told))

    def test_by_hand(self):
        self.assertEqual(places(ROW, ((0, 1), (1,), (1, 2), (0,))), (1, 2, 3, 4))
        self.assertEqual(places(ROW, ((0,), (1,)), 1), (1, 2))
        self.assertEqual(places(ROW, ((1, 2), (0,)), 6), (3, 4))
        self.assertIsNone(places(ROW, ((1, 2), (0,)), 5))
        self.assertIsNone(places(ROW, ((2,), (1,))))
        self.assertIsNone(places(ROW, ((3,),)))
        self.assertIsNone(places((), ((0,),)))

    def test_all_moments_tried(self):
        source = random.Random(29)
        for row in SMALL_ROWS:
            for size in range(1, 7):
                for pattern in (random_pattern(source, 3, size), random_pattern(source, 1, size),
                                random_pattern(source, 2, size)):
                    for gap in GAPS:
                        self.check_places(row, pattern, gap, all_fits(row, pattern, gap))

    def test_long_rows(self):
        source = random.Random(30)
        for gap in (None, 0, 1, 2, 3, 4, 7, 40):
            for size in range(1, 7):
                for wares in (1, 2, 3):
                    row = random_row(source, wares, 60)
                    pattern = random_pattern(source, wares, size)
                    self.check_places(row, pattern, gap, ends_step_by_step(row, pattern, gap)[-1])

    def test_the_first_end_is_not_always_near_enough(self):
        row = ((0, (0,)), (2, (1,)), (9, (0,)), (11, (1,)), (13, (2,)))
        self.assertEqual(places(row, ((0,), (1,), (2,)), 2), (2, 3, 4))

    def test_the_last_end_is_not_always_near_enough(self):
        row = ((0, (0,)), (2, (1,)), (3, (2,)), (9, (1,)), (30, (2,)))
        self.assertEqual(places(row, ((0,), (1,), (2,)), 3), (0, 1, 2))


class CountRows(unittest.TestCase):
    def test_by_hand(self):
        rows = ((3, ROW), (2, ROW[2:]), (MOST, ROW[:1]), (1, ()), (5, ROW[:2]))
        self.assertEqual(count_rows(rows, ((0,),)), MOST + 10)
        self.assertEqual(count_rows(rows, ((0,), (1,))), 8)
        self.assertEqual(count_rows(rows, ((0,), (1,)), 2), 3)
        self.assertEqual(count_rows(rows, ((1,), (0,))), 5)
        self.assertEqual(count_rows(rows, ((1,), (0,)), 6), 5)
        self.assertEqual(count_rows(rows, ((1,), (0,)), 5), 0)
        self.assertEqual(count_rows(rows, ((2,), (2,), (2,))), 0)

    def test_all_moments_tried(self):
        source = random.Random(31)
        for step in range(30):
            rows = many_rows(source, 2, source.randint(0, 6))
            for size in range(1, 7):
                pattern = random_pattern(source, 2, size) if step % 2 else ((0,),) * size
                for gap in (None, 0, 2, 5):
                    told = sum(many for many, row in rows if all_fits(row, pattern, gap))
                    self.assertEqual(count_rows(rows, pattern, gap), told, (rows, pattern, gap))

    def test_a_row_counts_once_however_often_the_pattern_comes_in_it(self):
        row = tuple((time, (0,)) for time in range(60))
        self.assertEqual(count_rows(((2, row), (3, row)), ((0,), (0,))), 5)

    def test_of_no_rows(self):
        told = count_rows((), ((0,),))
        self.assertEqual(told, 0)
        self.assertIs(type(told), int)

    def test_a_hundred_rows(self):
        source = random.Random(32)
        rows = many_rows(source, 3, 100, 60)
        for gap in (None, 3):
            for size in (1, 3, 6):
                pattern = random_pattern(source, 3, size)
                self.assertEqual(count_rows(rows, pattern, gap), count_by_hand(rows, pattern, gap))


class OftenRows(unittest.TestCase):
    def test_by_hand(self):
        rows = ((3, ((0, (0,)), (4, (1,)))), (2, ((1, (1,)), (2, (0, 1)), (9, (0,)))), (1, ()))
        self.assertEqual(often_rows(rows, 2, 2), (
            ((0,), 5), ((1,), 5), ((0, 0), 2), ((0, 1), 3), ((1, 0), 2), ((1, 1), 2)))
        self.assertEqual(often_rows(rows, 2, 3), (((0,), 5), ((1,), 5), ((0, 1), 3)))
        self.assertEqual(often_rows(rows, 2, 2, 1), (((0,), 5), ((1,), 5)))
        self.assertEqual(often_rows(rows, 2, 2, 3), (
            ((0,), 5), ((1,), 5), ((0, 0), 2), ((0, 1), 3), ((1, 0), 2), ((1, 1), 2), ((1, 0, 0), 2),
            ((1, 1, 0), 2)))
        self.assertEqual(often_rows(rows, 2, 2, 2, 3), (((0,), 5), ((1,), 5), ((1, 0), 2), ((1, 1), 2)))
        self.assertEqual(often_rows(rows, 2, 6, 3), ())

    def test_each_row_of_wares_counted(self):
        source = random.Random(33)
        for wares in range(4):
            for size in (0, 1, 2, 5, 8):
                rows = many_rows(source, max(wares, 2), size)
                for long in (1, 2, 3):
                    for gap in (None, 0, 2, 6):
                        for least in (1, 2, 3, 4, MOST, 2 * MOST):
                            self.assertEqual(often_rows(rows, wares, least, long, gap),
                                             often_rows_by_hand(rows, wares, least, long, gap),
                                             (rows, wares, least, long, gap))

    def test_twelve_wares(self):
        source = random.Random(34)
        rows = many_rows(source, 12, 6)
        for long in (1, 2, 3):
            for gap, least in ((None, 1), (None, 3), (5, 2)):
                self.assertEqual(often_rows(rows, 12, least, long, gap),
                                 often_rows_by_hand(rows, 12, least, long, gap))

    def test_as_count_rows_counts(self):
        source = random.Random(35)
        rows = many_rows(source, 4, 40, 20)
        for gap in (None, 3):
            for taken, number in often_rows(rows, 4, 1, 3, gap):
                self.assertEqual(count_rows(rows, tuple((ware,) for ware in taken), gap), number)

    def test_the_order(self):
        full = tuple(range(12))
        rows = ((MOST, tuple((time, full) for time in range(60))),) * 100
        for wares in (0, 1, 2, 12):
            for long in (1, 2, 3):
                told = tuple((taken, 100 * MOST) for size in range(1, long + 1)
                             for taken in product(range(wares), repeat=size))
                self.assertEqual(often_rows(rows, wares, 100 * MOST, long), told)
                self.assertEqual(often_rows(rows, wares, 100 * MOST + 1, long), ())

    def test_only_wares_below_the_number(self):
        rows = ((2, ((0, (0, 5)), (1, (5,)))),)
        self.assertEqual(often_rows(rows, 5, 1), (((0,), 2),))
        self.assertEqual(often_rows(rows, 6, 2), (((0,), 2), ((5,), 2), ((0, 5), 2), ((5, 5), 2)))
        self.assertEqual(often_rows(rows, 0, 1, 3), ())

    def test_long_is_two_and_there_is_no_gap_if_nothing_is_said(self):
        rows = ((1, ((0, (0,)), (5, (0,)), (MOST, (0,)))),)
        self.assertEqual(often_rows(rows, 1, 1), (((0,), 1), ((0, 0), 1)))
        self.assertEqual(often_rows(rows, 1, 1, 3), (((0,), 1), ((0, 0), 1), ((0, 0, 0), 1)))
        self.assertEqual(often_rows(rows, 1, 1, gap=4), (((0,), 1),))

    def test_of_no_rows(self):
        for wares in range(13):
            self.assertEqual(often_rows((), wares, 1, 3), ())
            self.assertEqual(often_rows(((MOST, ()),), wares, 1, 3), ())

    def test_the_form(self):
        told = often_rows(many_rows(random.Random(36), 3, 9), 3, 1, 3)
        self.assertIs(type(told), tuple)
        self.assertGreater(len(told), 12)
        for pair in told:
            self.assertIs(type(pair), tuple)
            self.assertIs(type(pair[0]), tuple)
            self.assertIs(type(pair[1]), int)
            self.assertTrue(all(type(ware) is int for ware in pair[0]))


class Point2(unittest.TestCase):
    def answers(self, row):
        pattern = ((0,), (0,))
        return (ends(row, pattern), places(row, pattern), ends(row, pattern, 3), places(row, pattern, 3),
                count_rows(((2, row),), pattern), often_rows(((2, row),), 3, 1, 3, 3))

    def test_asked_again_behind_another_one(self):
        for one, other in zip(SMALL_ROWS, SMALL_ROWS[1:] + SMALL_ROWS[:1]):
            first = self.answers(one)
            self.answers(other)
            ends(one, ((1,),), 1)
            often_rows(((1, one), (3, other)), 2, 2)
            self.assertEqual(self.answers(one), first)

    def test_what_is_handed_in_stays(self):
        for row in SMALL_ROWS:
            was = repr(row)
            self.answers(row)
            self.assertEqual(repr(row), was)

    def test_the_arguments_names(self):
        row = ((0, (0,)), (2, (1,)))
        pattern = ((0,), (1,))
        self.assertEqual(ends(row=row, pattern=pattern, gap=2), ((0,), (1,)))
        self.assertEqual(places(row=row, pattern=pattern, gap=2), (0, 1))
        self.assertEqual(count_rows(rows=((4, row),), pattern=pattern, gap=1), 0)
        self.assertEqual(often_rows(rows=((4, row),), wares=2, least=1, long=2, gap=2),
                         (((0,), 4), ((1,), 4), ((0, 1), 4)))

    def test_nothing_is_refused_somewhat_beyond(self):
        row = tuple((MOST + time, (0,)) for time in range(70))
        rows = ((MOST + 1, row),) * 110
        self.assertEqual(ends(row, ((0,),) * 8, 1), tuple(tuple(range(size, 70)) for size in range(8)))
        self.assertEqual(len(places(row, ((0,),) * 8)), 8)
        self.assertEqual(count_rows(rows, ((0,),) * 8), 110 * (MOST + 1))
        self.assertEqual([len(pair[0]) for pair in often_rows(rows, 1, 1, 4)], [1, 2, 3, 4])
        self.assertEqual(often_rows(((2, ((0, (0,)),)),), 2, 0, 1), (((0,), 2), ((1,), 0)))
        self.assertEqual(often_rows(((1, ((0, (12,)),)),), 13, 1), (((12,), 1),))


if __name__ == "__main__":
    unittest.main()
