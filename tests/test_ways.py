"""Points 8, 9 and 10, and point 2 as far as it speaks of the four ways."""

import copy
import random
import unittest

from oftentogether.branching import Branching
from oftentogether.growing import Growing
from oftentogether.meeting import Meeting
from oftentogether.ways import Way
from tests.by_hand import (GREAT, MOST, SHOP, SMALL, check_pairs, counted_by_hand, counted_sets,
                           leasts_for, often_by_hand, random_pile, sets_in_order)

WAYS = (Way, Growing, Meeting, Branching)
UNDER = (Growing, Meeting, Branching)


class Classes(unittest.TestCase):
    def test_three_stand_each_right_under_way(self):
        for way in UNDER:
            self.assertEqual(way.__bases__, (Way,), way)

    def test_none_of_the_three_stands_under_another_one(self):
        for one in UNDER:
            for other in UNDER:
                self.assertEqual(issubclass(one, other), one is other, (one, other))

    def test_way_stands_under_none_of_them(self):
        self.assertEqual(Way.__bases__, (object,))

    def test_the_names(self):
        self.assertEqual([way.__name__ for way in WAYS], ["Way", "Growing", "Meeting", "Branching"])

    def test_each_finds_them_by_itself(self):
        for way in WAYS:
            self.assertIn("often", vars(way), way)

    def test_the_arguments_names(self):
        for way in WAYS:
            self.assertEqual(way().often(pile=(1, ((2, (0,)),)), least=2), (((), 2), ((0,), 2)))


class Often(unittest.TestCase):
    def test_by_hand(self):
        asked = {
            1: (((), 22), ((0,), 13), ((1,), 10), ((3,), 6), ((0, 1), 6), ((0, 3), 2), ((1, 3), 6),
                ((0, 1, 3), 2)),
            2: (((), 22), ((0,), 13), ((1,), 10), ((3,), 6), ((0, 1), 6), ((0, 3), 2), ((1, 3), 6),
                ((0, 1, 3), 2)),
            3: (((), 22), ((0,), 13), ((1,), 10), ((3,), 6), ((0, 1), 6), ((1, 3), 6)),
            6: (((), 22), ((0,), 13), ((1,), 10), ((3,), 6), ((0, 1), 6), ((1, 3), 6)),
            7: (((), 22), ((0,), 13), ((1,), 10)),
            10: (((), 22), ((0,), 13), ((1,), 10)),
            11: (((), 22), ((0,), 13)),
            14: (((), 22),),
            22: (((), 22),),
            23: ()}
        for way in WAYS:
            for least, told in asked.items():
                self.assertEqual(way().often(SHOP, least), told, (way, least))

    def test_set_by_set(self):
        for pile in SMALL:
            counts = counted_by_hand(pile)
            for least in leasts_for(pile):
                told = tuple(pair for pair in counts if pair[1] >= least)
                for way in WAYS:
                    self.assertEqual(way().often(pile, least), told, (way, pile, least))

    def test_at_the_count_of_a_set_and_beside_it(self):
        for pile in SMALL:
            counts = counted_by_hand(pile)
            for some, number in counts[::7]:
                for way in WAYS:
                    if number > 1:
                        self.assertIn((some, number), way().often(pile, number - 1))
                    if number >= 1:
                        self.assertIn((some, number), way().often(pile, number))
                    self.assertNotIn(some, dict(way().often(pile, number + 1)))

    def test_of_no_baskets_there_is_none(self):
        for way in WAYS:
            for wares in range(13):
                for least in (1, 2, MOST, 10 ** 60):
                    self.assertEqual(way().often((wares, ()), least), ())

    def test_the_empty_set_is_one_of_them_or_there_is_none(self):
        for pile in SMALL + GREAT:
            baskets = sum(many for many, basket in pile[1])
            for way in WAYS:
                if baskets:
                    self.assertEqual(way().often(pile, baskets)[0], ((), baskets))
                self.assertEqual(way().often(pile, baskets + 1), ())
                self.assertEqual(way().often(pile, 10 ** 60), ())

    def test_without_wares(self):
        for way in WAYS:
            self.assertEqual(way().often((0, ((2, ()), (3, ()))), 5), (((), 5),))
            self.assertEqual(way().often((0, ((2, ()), (3, ()))), 6), ())

    def test_like_baskets_in_several_runs_are_added_up(self):
        pile = (2, ((MOST, (1,)), (1, ()), (MOST, (1,)), (MOST, (0, 1))))
        for way in WAYS:
            self.assertEqual(way().often(pile, 3 * MOST), (((), 3 * MOST + 1), ((1,), 3 * MOST)))
            self.assertEqual(way().often(pile, 3 * MOST + 1), (((), 3 * MOST + 1),))

    def test_a_ware_that_no_basket_has(self):
        for way in WAYS:
            self.assertEqual(way().often((3, ((1, (0, 2)),)), 1),
                             (((), 1), ((0,), 1), ((2,), 1), ((0, 2), 1)))

    def test_the_order_of_the_sets(self):
        for wares in range(13):
            pile = (wares, ((4, tuple(range(wares))),))
            in_order = tuple((some, 4) for some in sets_in_order(wares))
            for way in WAYS:
                self.assertEqual(way().often(pile, 4), in_order, (way, wares))

    def test_the_form(self):
        for pile in SMALL + GREAT:
            for way in WAYS:
                check_pairs(self, way().often(pile, 1), pile[0])


class Alike(unittest.TestCase):
    def test_great_piles(self):
        for pile in GREAT:
            baskets = sum(many for many, basket in pile[1])
            leasts = {1, 2, 3, baskets // 2, baskets - 1, baskets, baskets + 1}
            counts = counted_by_hand(pile)
            for least in sorted(least for least in leasts if least >= 1):
                told = tuple(pair for pair in counts if pair[1] >= least)
                for way in WAYS:
                    self.assertEqual(way().often(pile, least), told, (way, pile, least))

    def test_two_hundred_runs_of_twelve_wares(self):
        pile = random_pile(random.Random(10), 12, 200, (1, 2, 3, MOST))
        for least in (1, 4, MOST, 20 * MOST):
            told = often_by_hand(pile, least)
            for way in WAYS:
                self.assertEqual(way().often(pile, least), told, (way, least))

    def test_the_order_of_the_runs_makes_no_difference(self):
        for pile in SMALL:
            for way in WAYS:
                self.assertEqual(way().often((pile[0], pile[1][::-1]), 2), way().often(pile, 2))

    def test_nothing_is_refused_somewhat_beyond(self):
        piles = [(13, ((MOST + 1, (0, 12)), (2, tuple(range(13))), (1, (4, 12)))),
                 (3, ((MOST + 1, (0, 2)), (1, (1,)), (1, ())) * 70)]
        for pile in piles:
            for least in (0, 1, 2, 10 ** 60 + 1):
                told = often_by_hand(pile, least)
                for way in WAYS:
                    self.assertEqual(way().often(pile, least), told, (way, least))


class Point2(unittest.TestCase):
    def test_one_object_asked_of_one_pile_then_another_then_the_first(self):
        for way in WAYS:
            asked = way()
            for one, other in zip(SMALL, SMALL[1:] + SMALL[:1]):
                for least in (1, 2, 5):
                    first = asked.often(one, least)
                    self.assertEqual(asked.often(other, least), often_by_hand(other, least))
                    self.assertEqual(asked.often(one, least + 1), often_by_hand(one, least + 1))
                    again = asked.often(one, least)
                    self.assertEqual(first, often_by_hand(one, least))
                    self.assertEqual(again, first)
                    self.assertEqual(way().often(one, least), first)

    def test_several_objects_asked_in_turn(self):
        objects = [way() for way in WAYS for step in range(2)]
        for pile in SMALL[::3]:
            for least in (2, 1, 3):
                told = often_by_hand(pile, least)
                for asked in objects + objects[::-1]:
                    self.assertEqual(asked.often(pile, least), told)

    def test_like_piles_have_like_answers(self):
        for pile in SMALL[::4]:
            like = (pile[0], tuple((many, tuple(list(basket))) for many, basket in pile[1]))
            for way in WAYS:
                asked = way()
                self.assertEqual(asked.often(like, 2), asked.often(pile, 2))

    def test_what_is_handed_in_stays(self):
        for pile in SMALL + GREAT:
            was = repr(copy.deepcopy(pile))
            for way in WAYS:
                way().often(pile, 2)
                self.assertEqual(repr(pile), was)


class Counted(unittest.TestCase):
    def test_by_hand(self):
        asked = {
            1: (((), 22), ((0,), 13), ((1,), 10), ((2,), 0), ((3,), 6), ((0, 1), 6), ((0, 3), 2),
                ((1, 3), 6), ((0, 1, 3), 2)),
            3: (((), 22), ((0,), 13), ((1,), 10), ((2,), 0), ((3,), 6), ((0, 1), 6), ((0, 3), 2),
                ((1, 3), 6)),
            10: (((), 22), ((0,), 13), ((1,), 10), ((2,), 0), ((3,), 6), ((0, 1), 6)),
            11: (((), 22), ((0,), 13), ((1,), 10), ((2,), 0), ((3,), 6)),
            22: (((), 22), ((0,), 13), ((1,), 10), ((2,), 0), ((3,), 6)),
            23: (((), 22),)}
        for least, told in asked.items():
            self.assertEqual(Growing().counted(SHOP, least), told, least)

    def test_a_set_is_not_counted_if_only_some_shorter_ones_are_often(self):
        pile = (3, ((2, (0, 1)), (2, (0, 2)), (1, (1, 2)), (1, (0, 1, 2))))
        self.assertEqual(Growing().counted(pile, 3), (
            ((), 6), ((0,), 5), ((1,), 4), ((2,), 4), ((0, 1), 3), ((0, 2), 3), ((1, 2), 2)))
        self.assertEqual(Growing().counted(pile, 2)[-1], ((0, 1, 2), 1))

    def test_set_by_set(self):
        for pile in SMALL:
            for least in leasts_for(pile):
                self.assertEqual(Growing().counted(pile, least), counted_sets(pile, least),
                                 (pile, least))

    def test_great_piles(self):
        for pile in GREAT:
            baskets = sum(many for many, basket in pile[1])
            for least in sorted({1, 2, 3, max(1, baskets // 2), max(1, baskets), baskets + 1}):
                self.assertEqual(Growing().counted(pile, least), counted_sets(pile, least),
                                 (pile, least))

    def test_the_seldom_ones_are_the_smallest(self):
        for pile in SMALL:
            for least in (1, 2, 4):
                counts = counted_by_hand(pile)
                seldom = [pair for pair in counts if pair[1] < least]
                smallest = [pair for pair in seldom
                            if not any(set(other) < set(pair[0]) for other, number in seldom)]
                told = Growing().counted(pile, least)
                self.assertEqual([pair for pair in told if pair[1] < least], smallest)
                self.assertEqual(tuple(pair for pair in told if pair[1] >= least),
                                 often_by_hand(pile, least))

    def test_where_no_set_is_often(self):
        for wares in range(13):
            for least in (1, 2, 10 ** 60):
                self.assertEqual(Growing().counted((wares, ()), least), (((), 0),))
        for pile in SMALL + GREAT:
            baskets = sum(many for many, basket in pile[1])
            for least in (baskets + 1, 10 ** 60):
                self.assertEqual(Growing().counted(pile, least), (((), baskets),))

    def test_where_all_sets_are_often(self):
        for wares in range(13):
            pile = (wares, ((MOST, tuple(range(wares))),))
            self.assertEqual(Growing().counted(pile, MOST), tuple(counted_by_hand(pile)))

    def test_the_form(self):
        for pile in SMALL + GREAT:
            told = Growing().counted(pile, 2)
            check_pairs(self, told, pile[0])
            self.assertEqual(told[0][0], ())

    def test_the_arguments_names(self):
        self.assertEqual(Growing().counted(pile=(1, ((2, ()),)), least=2), (((), 2), ((0,), 0)))


class Point2OfCounted(unittest.TestCase):
    def test_one_object_asked_of_one_pile_then_another_then_the_first(self):
        asked = Growing()
        for one, other in zip(SMALL, SMALL[1:] + SMALL[:1]):
            first = asked.counted(one, 2)
            self.assertEqual(asked.counted(other, 2), counted_sets(other, 2))
            self.assertEqual(asked.often(one, 1), often_by_hand(one, 1))
            self.assertEqual(asked.counted(one, 3), counted_sets(one, 3))
            self.assertEqual(asked.counted(one, 2), first)
            self.assertEqual(Growing().counted(one, 2), first)
            self.assertEqual(first, counted_sets(one, 2))

    def test_what_is_handed_in_stays(self):
        for pile in SMALL + GREAT:
            was = repr(pile)
            Growing().counted(pile, 2)
            self.assertEqual(repr(pile), was)


if __name__ == "__main__":
    unittest.main()
