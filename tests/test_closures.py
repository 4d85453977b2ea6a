"""Points 11 and 12, and point 2 as far as it speaks of closures."""

import random
import unittest

from oftentogether.closures import closed, closure, count_by
from tests.by_hand import (GREAT, MOST, SHOP, SMALL, check_pairs, check_sets, closed_by_hand,
                           counted_by_hand, leasts_for, random_pile, sets_in_order)


def closure_by_hand(pile, some):
    """Ware by ware; where there is no basket above the set, all of them have each ware."""
    above = [basket for many, basket in pile[1] if set(some) <= set(basket)]
    return tuple(ware for ware in range(pile[0]) if all(ware in basket for basket in above))


class Closure(unittest.TestCase):
    def test_by_hand(self):
        for some, told in (((), ()), ((0,), (0,)), ((1,), (1,)), ((3,), (1, 3)), ((0, 1), (0, 1)),
                           ((0, 3), (0, 1, 3)), ((1, 3), (1, 3)), ((0, 1, 3), (0, 1, 3)),
                           ((2,), (0, 1, 2, 3)), ((0, 2), (0, 1, 2, 3))):
            self.assertEqual(closure(SHOP, some), told, some)

    def test_set_by_set(self):
        for pile in SMALL:
            for some in sets_in_order(pile[0]):
                self.assertEqual(closure(pile, some), closure_by_hand(pile, some), (pile, some))

    def test_great_piles(self):
        for pile in GREAT:
            for some in sets_in_order(pile[0])[::5]:
                self.assertEqual(closure(pile, some), closure_by_hand(pile, some), (pile, some))

    def test_of_a_set_that_lies_in_no_basket(self):
        pile = (5, ((2, (0, 1)), (3, (1, 2, 3)), (1, ())))
        for some in ((4,), (0, 2), (0, 4), (0, 1, 2), (0, 1, 2, 3, 4)):
            self.assertEqual(closure(pile, some), (0, 1, 2, 3, 4), some)

    def test_without_runs(self):
        for wares in range(13):
            full = tuple(range(wares))
            for some in ((), full[:1], full[1:], full):
                self.assertEqual(closure((wares, ()), some), full)

    def test_the_basket_without_wares(self):
        for wares in range(1, 7):
            pile = (wares, ((1, tuple(range(wares))), (1, ())))
            self.assertEqual(closure(pile, ()), ())
            self.assertEqual(closure(pile, (0,)), tuple(range(wares)))
            self.assertEqual(closure((wares, ((7, ()),)), ()), ())
            self.assertEqual(closure((wares, ((7, ()),)), (0,)), tuple(range(wares)))

    def test_of_no_wares_where_all_baskets_have_some(self):
        self.assertEqual(closure((4, ((1, (1, 2)), (MOST, (0, 1)), (1, (1, 2, 3)))), ()), (1,))

    def test_how_many_baskets_a_run_has_makes_no_difference(self):
        self.assertEqual(closure((3, ((MOST, (0, 1)), (1, (0, 2)))), (0,)), (0,))
        self.assertEqual(closure((3, ((MOST, (0, 1)), (MOST, (0, 1, 2)))), (0,)), (0, 1))

    def test_the_closure_of_a_closure_is_itself(self):
        for pile in SMALL:
            for some in sets_in_order(pile[0]):
                told = closure(pile, some)
                self.assertEqual(closure(pile, told), told, (pile, some))
                self.assertLessEqual(set(some), set(told))

    def test_it_has_the_same_count(self):
        for pile in SMALL:
            counts = dict(counted_by_hand(pile))
            for some, number in counts.items():
                self.assertEqual(counts[closure(pile, some)], number, (pile, some))

    def test_the_form(self):
        for pile in SMALL + GREAT:
            for some in sets_in_order(pile[0])[::9]:
                check_sets(self, (closure(pile, some),), pile[0])


class Closed(unittest.TestCase):
    def test_by_hand(self):
        asked = {
            1: (((), 22), ((0,), 13), ((1,), 10), ((0, 1), 6), ((1, 3), 6), ((0, 1, 3), 2)),
            3: (((), 22), ((0,), 13), ((1,), 10), ((0, 1), 6), ((1, 3), 6)),
            7: (((), 22), ((0,), 13), ((1,), 10)),
            13: (((), 22), ((0,), 13)),
            22: (((), 22),),
            23: ()}
        for least, told in asked.items():
            self.assertEqual(closed(SHOP, least), told, least)

    def test_the_ones_that_lose_by_any_ware_more(self):
        for pile in SMALL:
            for least in leasts_for(pile):
                self.assertEqual(closed(pile, least), closed_by_hand(pile, least), (pile, least))

    def test_the_often_ones_that_are_their_own_closure(self):
        for pile in SMALL:
            own = [pair for pair in counted_by_hand(pile) if closure_by_hand(pile, pair[0]) == pair[0]]
            for least in (1, 2, 5, MOST):
                told = tuple(pair for pair in own if pair[1] >= least)
                self.assertEqual(closed(pile, least), told, (pile, least))

    def test_great_piles(self):
        for pile in GREAT:
            baskets = sum(many for many, basket in pile[1])
            for least in sorted({1, 2, 3, max(1, baskets // 2), max(1, baskets), baskets + 1}):
                self.assertEqual(closed(pile, least), closed_by_hand(pile, least), (pile, least))

    def test_two_hundred_runs_of_twelve_wares(self):
        pile = random_pile(random.Random(11), 12, 200, (1, 2, 3, MOST))
        for least in (1, 4, MOST, 20 * MOST):
            self.assertEqual(closed(pile, least), closed_by_hand(pile, least), least)

    def test_the_meets_of_baskets(self):
        for pile in SMALL:
            meets = set()
            for many, basket in pile[1]:
                meets |= {tuple(sorted(set(meet) & set(basket))) for meet in meets} | {basket}
            self.assertEqual({some for some, number in closed(pile, 1)}, meets, pile)

    def test_where_no_set_is_often(self):
        for wares in range(13):
            self.assertEqual(closed((wares, ()), 1), ())
        for pile in SMALL + GREAT:
            baskets = sum(many for many, basket in pile[1])
            self.assertEqual(closed(pile, baskets + 1), ())
            self.assertEqual(closed(pile, 10 ** 60), ())

    def test_only_all_wares_where_all_baskets_have_all(self):
        for wares in range(13):
            full = tuple(range(wares))
            self.assertEqual(closed((wares, ((2, full), (3, full))), 5), ((full, 5),))

    def test_without_wares(self):
        self.assertEqual(closed((0, ((2, ()), (3, ()))), 5), (((), 5),))
        self.assertEqual(closed((0, ((2, ()), (3, ()))), 6), ())

    def test_the_form(self):
        for pile in SMALL + GREAT:
            check_pairs(self, closed(pile, 1), pile[0])


class CountBy(unittest.TestCase):
    def test_by_hand(self):
        pairs = (((), 22), ((0,), 13), ((1,), 10), ((0, 1), 6), ((1, 3), 6), ((0, 1, 3), 2))
        for some, told in (((), 22), ((0,), 13), ((1,), 10), ((3,), 6), ((0, 1), 6), ((1, 3), 6),
                           ((0, 3), 2), ((0, 1, 3), 2), ((2,), None), ((0, 1, 2, 3), None)):
            self.assertEqual(count_by(pairs, some), told, some)

    def test_the_count_of_each_often_set_and_none_of_a_seldom_one(self):
        for pile in SMALL:
            counts = counted_by_hand(pile)
            for least in leasts_for(pile)[::3] + [1, 2]:
                pairs = closed(pile, least)
                for some, number in counts:
                    told = count_by(pairs, some)
                    if number >= least:
                        self.assertEqual(told, number, (pile, least, some))
                        self.assertIs(type(told), int)
                    else:
                        self.assertIsNone(told, (pile, least, some))

    def test_great_piles(self):
        for pile in GREAT:
            for least in (1, 3):
                pairs = closed(pile, least)
                for some, number in counted_by_hand(pile)[::7]:
                    self.assertEqual(count_by(pairs, some), number if number >= least else None)

    def test_of_no_pairs(self):
        for some in sets_in_order(4):
            self.assertIsNone(count_by((), some))

    def test_the_greatest_of_those_above_wherever_it_stands(self):
        pairs = (((0, 1, 3), 2), ((1, 3), 6), ((1,), 10), ((0, 1), 7))
        self.assertEqual(count_by(pairs, (1,)), 10)
        self.assertEqual(count_by(pairs, ()), 10)
        self.assertEqual(count_by(pairs, (3,)), 6)
        self.assertEqual(count_by(pairs, (0,)), 7)
        self.assertEqual(count_by(pairs[::-1], (3,)), 6)
        self.assertEqual(count_by(pairs[::-1], (0, 3)), 2)


class Point2(unittest.TestCase):
    def test_asked_again_behind_another_one(self):
        for one, other in zip(SMALL, SMALL[1:] + SMALL[:1]):
            some = tuple(range(one[0]))[:1]
            first = (closure(one, some), closed(one, 2), count_by(closed(one, 2), some))
            self.assertEqual(closed(other, 2), closed_by_hand(other, 2))
            self.assertEqual(closure(other, ()), closure_by_hand(other, ()))
            self.assertEqual(closed(one, 3), closed_by_hand(one, 3))
            self.assertEqual(closure(one, ()), closure_by_hand(one, ()))
            count_by(closed(other, 1), ())
            again = (closure(one, some), closed(one, 2), count_by(closed(one, 2), some))
            self.assertEqual(again, first)

    def test_what_is_handed_in_stays(self):
        for pile in SMALL + GREAT:
            pairs = closed(pile, 1)
            was = repr((pile, pairs))
            closure(pile, ())
            closed(pile, 2)
            count_by(pairs, ())
            self.assertEqual(repr((pile, pairs)), was)

    def test_the_arguments_names(self):
        pile = (2, ((2, (0,)), (1, (0, 1))))
        self.assertEqual(closure(pile=pile, some=()), (0,))
        self.assertEqual(closed(pile=pile, least=1), (((0,), 3), ((0, 1), 1)))
        self.assertEqual(count_by(pairs=(((0,), 3), ((0, 1), 1)), some=(1,)), 1)

    def test_nothing_is_refused_somewhat_beyond(self):
        piles = [(13, ((MOST + 1, (0, 12)), (2, tuple(range(13))), (1, (4, 12)))),
                 (3, ((MOST + 1, (0, 2)), (1, (1,)), (1, ())) * 70)]
        for pile in piles:
            for least in (1, 2, 10 ** 60 + 1):
                self.assertEqual(closed(pile, least), closed_by_hand(pile, least))
            for some in ((), (0,), (0, 2)):
                self.assertEqual(closure(pile, some), closure_by_hand(pile, some))


if __name__ == "__main__":
    unittest.main()
