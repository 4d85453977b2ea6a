"""Points 13 and 14, and point 2 as far as it speaks of where often ends."""

import random
import unittest
from itertools import combinations

from oftentogether.borders import greatest, greatest_without, seldom, smallest_beyond
from tests.by_hand import (GREAT, MOST, SHOP, SMALL, check_pairs, check_sets, counted_by_hand,
                           greatest_by_hand, leasts_for, random_pile, seldom_by_hand, sets_in_order)


def beyond_by_hand(wares, sets):
    found = [some for some in sets_in_order(wares)
             if not any(set(some) <= set(other) for other in sets)]
    return tuple(some for some in found if not any(set(other) < set(some) for other in found))


def without_by_hand(wares, sets):
    found = [some for some in sets_in_order(wares)
             if not any(set(some) >= set(other) for other in sets)]
    return tuple(some for some in found if not any(set(other) > set(some) for other in found))


def sets_of(pairs):
    return tuple(some for some, number in pairs)


def some_leasts(pile):
    """1, some counts and one more than them, and more than there are baskets."""
    leasts = leasts_for(pile)
    return sorted(set(leasts[::max(1, len(leasts) // 6)] + leasts[:2] + leasts[-3:]))


class Greatest(unittest.TestCase):
    def test_by_hand(self):
        asked = {
            1: (((0, 1, 3), 2),),
            2: (((0, 1, 3), 2),),
            3: (((0, 1), 6), ((1, 3), 6)),
            6: (((0, 1), 6), ((1, 3), 6)),
            7: (((0,), 13), ((1,), 10)),
            11: (((0,), 13),),
            14: (((), 22),),
            22: (((), 22),),
            23: ()}
        for least, told in asked.items():
            self.assertEqual(greatest(SHOP, least), told, least)

    def test_sets_of_several_lengths(self):
        pile = (5, ((1, (0, 1, 2)), (1, (3,)), (1, (2, 4))))
        self.assertEqual(greatest(pile, 1), (((3,), 1), ((2, 4), 1), ((0, 1, 2), 1)))

    def test_set_by_set(self):
        for pile in SMALL:
            for least in some_leasts(pile):
                self.assertEqual(greatest(pile, least), greatest_by_hand(pile, least), (pile, least))

    def test_two_hundred_runs(self):
        pile = random_pile(random.Random(13), 8, 200, (1, 2, 3, MOST))
        for least in (1, 4, MOST, 20 * MOST):
            self.assertEqual(greatest(pile, least), greatest_by_hand(pile, least), least)

    def test_without_runs(self):
        for wares in range(13):
            self.assertEqual(greatest((wares, ()), 1), ())

    def test_by_a_least_beyond_all_baskets(self):
        for pile in SMALL + GREAT:
            baskets = sum(many for many, basket in pile[1])
            self.assertEqual(greatest(pile, baskets + 1), ())
            self.assertEqual(greatest(pile, 10 ** 60), ())

    def test_where_all_sets_are_often(self):
        for wares in range(13):
            full = tuple(range(wares))
            self.assertEqual(greatest((wares, ((4, full),)), 4), ((full, 4),))

    def test_the_form(self):
        for pile in SMALL + GREAT:
            for least in (1, 2):
                check_pairs(self, greatest(pile, least), pile[0])


class Seldom(unittest.TestCase):
    def test_by_hand(self):
        asked = {
            1: (((2,), 0),),
            3: (((2,), 0), ((0, 3), 2)),
            7: (((2,), 0), ((3,), 6), ((0, 1), 6)),
            11: (((1,), 10), ((2,), 0), ((3,), 6)),
            22: (((0,), 13), ((1,), 10), ((2,), 0), ((3,), 6)),
            23: (((), 22),)}
        for least, told in asked.items():
            self.assertEqual(seldom(SHOP, least), told, least)

    def test_set_by_set(self):
        for pile in SMALL:
            for least in some_leasts(pile):
                self.assertEqual(seldom(pile, least), seldom_by_hand(pile, least), (pile, least))

    def test_two_hundred_runs(self):
        pile = random_pile(random.Random(14), 8, 200, (1, 2, 3, MOST))
        for least in (1, 4, MOST, 20 * MOST):
            self.assertEqual(seldom(pile, least), seldom_by_hand(pile, least), least)

    def test_without_runs_it_is_the_empty_set(self):
        for wares in range(13):
            for least in (1, 2, 10 ** 60):
                self.assertEqual(seldom((wares, ()), least), (((), 0),))

    def test_by_a_least_beyond_all_baskets(self):
        for pile in SMALL + GREAT:
            baskets = sum(many for many, basket in pile[1])
            self.assertEqual(seldom(pile, baskets + 1), (((), baskets),))
            self.assertEqual(seldom(pile, 10 ** 60), (((), baskets),))

    def test_where_all_sets_are_often(self):
        for wares in range(13):
            self.assertEqual(seldom((wares, ((4, tuple(range(wares))),)), 4), ())

    def test_the_form(self):
        for pile in SMALL + GREAT:
            for least in (1, 2):
                check_pairs(self, seldom(pile, least), pile[0])


class TheWhole(unittest.TestCase):
    def test_each_set_lies_above_a_seldom_one_or_below_an_often_one_never_both(self):
        for pile in SMALL:
            for least in (1, 2, 4, MOST):
                often = sets_of(greatest(pile, least))
                rest = sets_of(seldom(pile, least))
                for some, number in counted_by_hand(pile):
                    below = any(set(some) <= set(other) for other in often)
                    above = any(set(some) >= set(other) for other in rest)
                    self.assertEqual((below, above), (number >= least, number < least), (pile, some))

    def test_either_row_tells_the_other(self):
        for pile in SMALL + GREAT:
            baskets = sum(many for many, basket in pile[1])
            for least in sorted({1, 2, 4, MOST, max(1, baskets), baskets + 1}):
                often = sets_of(greatest(pile, least))
                rest = sets_of(seldom(pile, least))
                self.assertEqual(smallest_beyond(pile[0], often), rest, (pile, least))
                self.assertEqual(greatest_without(pile[0], rest), often, (pile, least))


def families():
    """Every tuple of unlike sets of up to three wares; then some of more, in any order, some twice."""
    made = []
    for wares in range(4):
        sets = sets_in_order(wares)
        for size in range(len(sets) + 1):
            made.extend((wares, chosen) for chosen in combinations(sets, size))
    source = random.Random(12)
    for wares in range(1, 8):
        sets = sets_in_order(wares)
        for size in (1, 2, 3, 5, 9, 20):
            made.append((wares, tuple(source.choice(sets) for step in range(size))))
        for length in range(wares + 1):
            layer = list(combinations(range(wares), length)) * 2
            source.shuffle(layer)
            made.append((wares, tuple(layer)))
    return made


FAMILIES = families()


class OfSets(unittest.TestCase):
    def test_smallest_beyond_by_hand(self):
        for wares, sets, told in (
                (3, ((0, 1), (1, 2)), ((0, 2),)),
                (3, ((1, 2), (), (0, 1), (1, 2)), ((0, 2),)),
                (4, ((0, 1), (1, 3)), ((2,), (0, 3))),
                (3, ((0,), (1,), (2,)), ((0, 1), (0, 2), (1, 2))),
                (3, ((0, 1), (0, 2), (1, 2)), ((0, 1, 2),)),
                (4, ((0, 1, 2), (3,)), ((0, 3), (1, 3), (2, 3))),
                (4, ((2, 3), (0, 1), (0, 2)), ((0, 3), (1, 2), (1, 3)))):
            self.assertEqual(smallest_beyond(wares, sets), told, sets)

    def test_greatest_without_by_hand(self):
        for wares, sets, told in (
                (3, ((0, 2),), ((0, 1), (1, 2))),
                (3, ((0, 2), (0, 1, 2), (0, 2)), ((0, 1), (1, 2))),
                (4, ((2,), (0, 3)), ((0, 1), (1, 3))),
                (3, ((0, 1), (0, 2), (1, 2)), ((0,), (1,), (2,))),
                (3, ((0,), (1,), (2,)), ((),)),
                (4, ((2, 3), (0, 3), (1, 3)), ((3,), (0, 1, 2))),
                (3, ((0, 1, 2),), ((0, 1), (0, 2), (1, 2)))):
            self.assertEqual(greatest_without(wares, sets), told, sets)

    def test_of_no_sets(self):
        for wares in range(13):
            self.assertEqual(smallest_beyond(wares, ()), ((),))
            self.assertEqual(greatest_without(wares, ()), (tuple(range(wares)),))

    def test_of_the_empty_set(self):
        for wares in range(13):
            singles = tuple((ware,) for ware in range(wares))
            self.assertEqual(smallest_beyond(wares, ((),)), singles)
            self.assertEqual(greatest_without(wares, ((),)), ())

    def test_of_all_wares(self):
        for wares in range(1, 13):
            full = tuple(range(wares))
            self.assertEqual(smallest_beyond(wares, (full,)), ())
            self.assertEqual(greatest_without(wares, (full,)), tuple(combinations(full, wares - 1)))

    def test_of_no_wares(self):
        for sets in (((),), ((), ())):
            self.assertEqual(smallest_beyond(0, sets), ())
            self.assertEqual(greatest_without(0, sets), ())
        self.assertEqual(smallest_beyond(0, ()), ((),))
        self.assertEqual(greatest_without(0, ()), ((),))

    def test_set_by_set(self):
        for wares, sets in FAMILIES:
            self.assertEqual(smallest_beyond(wares, sets), beyond_by_hand(wares, sets), (wares, sets))
            self.assertEqual(greatest_without(wares, sets), without_by_hand(wares, sets), (wares, sets))

    def test_neither_the_order_nor_how_often_makes_a_difference(self):
        source = random.Random(15)
        for wares, sets in FAMILIES[-80:]:
            mixed = list(sets + sets[:2])
            source.shuffle(mixed)
            self.assertEqual(smallest_beyond(wares, tuple(mixed)), smallest_beyond(wares, sets))
            self.assertEqual(greatest_without(wares, tuple(mixed)), greatest_without(wares, sets))

    def test_all_sets_of_one_length_of_twelve_wares(self):
        for length in range(13):
            layer = tuple(combinations(range(12), length))[::-1]
            longer = tuple(combinations(range(12), length + 1))
            shorter = tuple(combinations(range(12), length - 1)) if length else ()
            self.assertEqual(smallest_beyond(12, layer), longer)
            self.assertEqual(greatest_without(12, layer), shorter)

    def test_all_sets_of_twelve_wares(self):
        sets = tuple(sets_in_order(12))
        self.assertEqual(smallest_beyond(12, sets), ())
        self.assertEqual(greatest_without(12, sets), ())
        self.assertEqual(smallest_beyond(12, sets[:-1]), (sets[-1],))
        self.assertEqual(greatest_without(12, sets[1:]), ((),))

    def test_the_form(self):
        for wares, sets in FAMILIES:
            check_sets(self, smallest_beyond(wares, sets), wares)
            check_sets(self, greatest_without(wares, sets), wares)


class Point2(unittest.TestCase):
    def test_piles_asked_again_behind_another_one(self):
        for one, other in zip(SMALL, SMALL[1:] + SMALL[:1]):
            first = (greatest(one, 2), seldom(one, 2))
            self.assertEqual(greatest(other, 2), greatest_by_hand(other, 2))
            self.assertEqual(seldom(other, 2), seldom_by_hand(other, 2))
            self.assertEqual(seldom(one, 3), seldom_by_hand(one, 3))
            self.assertEqual(greatest(one, 3), greatest_by_hand(one, 3))
            self.assertEqual((greatest(one, 2), seldom(one, 2)), first)

    def test_sets_asked_again_behind_other_ones(self):
        for one, other in zip(FAMILIES, FAMILIES[7:] + FAMILIES[:7]):
            first = (smallest_beyond(*one), greatest_without(*one))
            smallest_beyond(*other)
            greatest_without(*other)
            smallest_beyond(one[0] + 1, one[1])
            self.assertEqual((smallest_beyond(*one), greatest_without(*one)), first)

    def test_what_is_handed_in_stays(self):
        for pile in SMALL + GREAT:
            was = repr(pile)
            greatest(pile, 2)
            seldom(pile, 2)
            self.assertEqual(repr(pile), was)
        for wares, sets in FAMILIES:
            was = repr(sets)
            smallest_beyond(wares, sets)
            greatest_without(wares, sets)
            self.assertEqual(repr(sets), was)

    def test_the_arguments_names(self):
        pile = (2, ((2, (0,)), (1, (0, 1))))
        self.assertEqual(greatest(pile=pile, least=2), (((0,), 3),))
        self.assertEqual(seldom(pile=pile, least=2), (((1,), 1),))
        self.assertEqual(smallest_beyond(wares=2, sets=((0,),)), ((1,),))
        self.assertEqual(greatest_without(wares=2, sets=((1,),)), ((0,),))

    def test_nothing_is_refused_somewhat_beyond(self):
        full = tuple(range(13))
        pile = (13, ((MOST + 1, full[1:]), (2, full[:-1])) * 101)
        self.assertEqual(greatest(pile, 1), ((full[:-1], 202), (full[1:], 101 * (MOST + 1))))
        self.assertEqual(seldom(pile, 1), (((0, 12), 0),))
        self.assertEqual(smallest_beyond(13, (full[1:], full[:-1])), ((0, 12),))
        self.assertEqual(greatest_without(13, ((0, 12),)), (full[:-1], full[1:]))


if __name__ == "__main__":
    unittest.main()
