"""Points 16, 17 and 18, and point 2 as far as it speaks of sayings."""

import random
import unittest
from fractions import Fraction
from math import gcd

from oftentogether.errors import NoShare, TooGreat
from oftentogether.sayings import sayings
from tests.by_hand import (GREAT, MOST, SHOP, SMALL, Odd, check_refused, counted_by_hand, random_pile,
                           sets_in_order)

PILES = [pile for pile in SMALL if pile[0] < 4] + [pile for pile in SMALL if pile[0] >= 4][::6] + [SHOP]
BOUNDS = ((0, 1), (1, 3), (1, 2), (2, 3), (1, 1))
NO_BOUNDS = (
    (1, 0), (0, 0), (-1, 2), (1, -2), (-1, -2), (True, 2), (False, 2), (1, True), (1, False),
    (True, True), (None, 2), (1, None), (None, None), ("1", 2), (1, "2"), ("", ""), (1.0, 2), (1, 2.0),
    (0.5, 1), ((1,), 2), (1, (2,)), ([1], 2), (1, [2]), ({}, 2), (Odd(), 2), (1, Odd()), (Fraction(1), 2),
    (), (1,), (1, 2, 3), (1, 2, None), ((1, 2),), [], [1, 2], [1], {}, {1: 2}, {1, 2}, 0, 1, 2, -1, 0.5,
    True, False, "", "12", "1/2", b"12", Fraction(1, 2), range(1, 3), object(), Odd(), tuple)


def as_share(worth):
    return (worth.numerator, worth.denominator)


def told_by_hand(pile, least, bound):
    """All but follows: of every two sets without a ware in common the shares are made anew."""
    counts = dict(counted_by_hand(pile))
    found = []
    for whom in sets_in_order(pile[0]):
        for what in sets_in_order(pile[0]):
            number = counts[tuple(sorted(set(whom + what)))]
            if what and not set(whom) & set(what) and number >= least:
                worth = Fraction(number, counts[whom])
                if worth >= Fraction(*bound):
                    chance = worth / Fraction(counts[what], counts[()])
                    found.append((whom, what, number, as_share(worth), as_share(chance)))
    return found


def follows_by_hand(found):
    """Each saying against every other one."""
    sets = [(set(saying[0]), set(saying[0] + saying[1])) for saying in found]
    return [any(other[0] <= one[0] and one[1] <= other[1] for other in sets if other is not one)
            for one in sets]


def sayings_by_hand(pile, least, bound):
    found = told_by_hand(pile, least, bound)
    return tuple(saying + (follows,) for saying, follows in zip(found, follows_by_hand(found)))


def first_five(told):
    return [saying[:5] for saying in told]


def some_leasts(pile):
    counts = sorted({number for some, number in counted_by_hand(pile)})
    near = counts[::max(1, len(counts) // 3)] + counts[-1:]
    return sorted(least for least in {1, 2, counts[-1] + 1} | set(near) if least >= 1)


class Told(unittest.TestCase):
    def test_by_hand(self):
        pile = (2, ((3, (0, 1)), (1, (0,)), (2, ())))
        self.assertEqual(sayings(pile, 1, (0, 1)), (
            ((), (0,), 4, (2, 3), (1, 1), True),
            ((), (1,), 3, (1, 2), (1, 1), True),
            ((), (0, 1), 3, (1, 2), (1, 1), False),
            ((0,), (1,), 3, (3, 4), (3, 2), True),
            ((1,), (0,), 3, (1, 1), (3, 2), True)))
        self.assertEqual(sayings(pile, 1, (2, 3)), (
            ((), (0,), 4, (2, 3), (1, 1), False),
            ((0,), (1,), 3, (3, 4), (3, 2), False),
            ((1,), (0,), 3, (1, 1), (3, 2), False)))
        self.assertEqual(sayings(pile, 4, (1, 2)), (((), (0,), 4, (2, 3), (1, 1), False),))
        self.assertEqual(sayings(pile, 5, (0, 1)), ())

    def test_less_than_by_chance(self):
        pile = (2, ((1, (0, 1)), (3, (0,)), (3, (1,)), (1, ())))
        self.assertIn(((0,), (1,), 1, (1, 4), (1, 2), True), sayings(pile, 1, (0, 1)))

    def test_set_by_set(self):
        for pile in PILES:
            for least in some_leasts(pile):
                for bound in BOUNDS:
                    self.assertEqual(sayings(pile, least, bound), sayings_by_hand(pile, least, bound),
                                     (pile, least, bound))

    def test_all_two_sets_without_a_ware_in_common(self):
        for wares in range(9):
            pile = (wares, ((2, tuple(range(wares))), (3, ())))
            told = [saying[:2] for saying in sayings(pile, 2, (0, 1))]
            sets = sets_in_order(wares)
            self.assertEqual(told, [(whom, what) for whom in sets for what in sets
                                    if what and not set(whom) & set(what)])
            self.assertEqual(len(told), 3 ** wares - 2 ** wares)

    def test_eight_wares(self):
        for seed in (16, 17):
            pile = random_pile(random.Random(seed), 8, 200, (1, 2, 3, MOST))
            for least, bound in ((1, (9, 10)), (3 * MOST, (1, 2)), (20 * MOST, (0, 1))):
                told = sayings(pile, least, bound)
                found = told_by_hand(pile, least, bound)
                self.assertEqual(first_five(told), found, (least, bound))
                self.assertGreater(len(told), 0)
                if len(told) < 1500:
                    self.assertEqual([saying[5] for saying in told], follows_by_hand(found))

    def test_the_order_is_of_whom_then_of_what(self):
        for pile in PILES:
            told = sayings(pile, 1, (0, 1))
            places = [(len(saying[0]), saying[0], len(saying[1]), saying[1]) for saying in told]
            self.assertEqual(places, sorted(set(places)), pile)

    def test_whom_may_be_empty_and_what_may_not(self):
        for pile in PILES:
            told = sayings(pile, 1, (0, 1))
            self.assertNotIn((), [saying[1] for saying in told])
            often = [some for some, number in counted_by_hand(pile) if number >= 1 and some]
            self.assertEqual([saying[1] for saying in told if saying[0] == ()], often)

    def test_of_no_baskets_there_is_none(self):
        for wares in range(9):
            for bound in (None, (0, 1)):
                self.assertEqual(sayings((wares, ()), 1, bound), ())

    def test_baskets_without_wares(self):
        for wares in range(9):
            self.assertEqual(sayings((wares, ((5, ()), (2, ()))), 1, (0, 1)), ())

    def test_by_a_least_beyond_all_baskets(self):
        for pile in PILES:
            baskets = sum(many for many, basket in pile[1])
            self.assertEqual(sayings(pile, baskets + 1, (0, 1)), ())
            self.assertEqual(sayings(pile, 10 ** 60, (0, 1)), ())

    def test_the_least_is_that_of_both_sets_together(self):
        pile = (2, ((2, (0, 1)), (9, (0,)), (9, (1,))))
        self.assertEqual([saying[:3] for saying in sayings(pile, 2, (0, 1))],
                         [((), (0,), 11), ((), (1,), 11), ((), (0, 1), 2), ((0,), (1,), 2), ((1,), (0,), 2)])
        self.assertEqual([saying[:3] for saying in sayings(pile, 3, (0, 1))],
                         [((), (0,), 11), ((), (1,), 11)])

    def test_exact_shares_of_great_counts(self):
        pile = (2, ((MOST, (0, 1)), (MOST - 1, (0,)), (MOST, (1,)), (1, ())))
        told = {saying[:2]: saying[2:5] for saying in sayings(pile, 1, (0, 1))}
        self.assertEqual(told[((0,), (1,))], (
            MOST, (MOST, 2 * MOST - 1), as_share(Fraction(MOST * 3 * MOST, (2 * MOST - 1) * 2 * MOST))))
        self.assertEqual(told[((1,), (0,))][1], (1, 2))
        self.assertNotIn(((0,), (1,)), [saying[:2] for saying in sayings(pile, 1, (MOST + 1, 2 * MOST - 1))])
        self.assertIn(((0,), (1,)), [saying[:2] for saying in sayings(pile, 1, (1, 2))])
        self.assertIn(((1,), (0,)), [saying[:2] for saying in sayings(pile, 1, (1, 2))])
        self.assertNotIn(((1,), (0,)), [saying[:2] for saying in sayings(pile, 1, (MOST, 2 * MOST - 1))])

    def test_the_form(self):
        for pile in PILES:
            told = sayings(pile, 1, (0, 1))
            self.assertIs(type(told), tuple)
            for saying in told:
                self.assertEqual([type(part) for part in saying], [tuple, tuple, int, tuple, tuple, bool])
                self.assertIs(type(saying), tuple)
                for part in saying[3:5]:
                    self.assertEqual([type(number) for number in part], [int, int])
                    self.assertEqual(gcd(*part), 1)
                for ware in saying[0] + saying[1]:
                    self.assertIs(type(ware), int)
                    self.assertIn(ware, range(pile[0]))


class Follows(unittest.TestCase):
    def test_by_hand(self):
        pile = (3, ((4, (0, 1, 2)), (1, (0, 1)), (1, (0,)), (2, (2,))))
        told = {saying[:2]: saying[5] for saying in sayings(pile, 1, (2, 3))}
        self.assertEqual(told, {
            ((), (0,)): False, ((), (2,)): False,
            ((0,), (1,)): True, ((0,), (2,)): True, ((0,), (1, 2)): False,
            ((1,), (0,)): True, ((1,), (2,)): True, ((1,), (0, 2)): False,
            ((2,), (0,)): True, ((2,), (1,)): True, ((2,), (0, 1)): False,
            ((0, 1), (2,)): True, ((0, 2), (1,)): True, ((1, 2), (0,)): True})

    def test_only_of_what_is_told_in_the_same_answer(self):
        pile = (2, ((3, (0, 1)), (1, (0,)), (2, ())))
        self.assertEqual([saying for saying in sayings(pile, 1, (1, 2)) if saying[0] == (0,)],
                         [((0,), (1,), 3, (3, 4), (3, 2), True)])
        self.assertEqual([saying for saying in sayings(pile, 1, (3, 4)) if saying[0] == (0,)],
                         [((0,), (1,), 3, (3, 4), (3, 2), False)])

    def test_not_of_itself(self):
        pile = (1, ((2, (0,)),))
        self.assertEqual(sayings(pile, 1), (((), (0,), 2, (1, 1), (1, 1), False),))

    def test_of_one_with_the_same_whom_and_of_one_with_the_same_sets_together(self):
        pile = (3, ((6, (0, 1, 2)), (1, (0,)), (1, (1,)), (1, (2,))))
        told = {saying[:2]: saying[5] for saying in sayings(pile, 1, (3, 4))}
        self.assertIs(told[((0,), (1, 2))], False)
        self.assertIs(told[((0,), (1,))], True)
        self.assertIs(told[((0, 1), (2,))], True)

    def test_against_every_other_saying(self):
        source = random.Random(18)
        for wares in (3, 4, 5):
            for step in range(25):
                pile = random_pile(source, wares, source.choice((4, 9, 30)), (1, 2, 5))
                for bound in ((source.randint(1, 9), 10), (1, 1), None):
                    told = sayings(pile, 1, bound)
                    self.assertEqual([saying[5] for saying in told], follows_by_hand(told), (pile, bound))

    def test_its_count_and_share_are_at_least_those_of_one_that_does_not_follow(self):
        for pile in PILES[::3]:
            told = sayings(pile, 1)
            strong = [saying for saying in told if not saying[5]]
            for saying in told:
                both = set(saying[0] + saying[1])
                above = [other for other in strong if set(other[0]) <= set(saying[0])
                         and both <= set(other[0] + other[1])]
                self.assertNotEqual(above, [])
                for other in above:
                    self.assertGreaterEqual(saying[2], other[2])
                    self.assertGreaterEqual(Fraction(*saying[3]), Fraction(*other[3]))


class Bounds(unittest.TestCase):
    def test_none_stands_for_a_half(self):
        for pile in PILES:
            for least in (1, 2):
                told = sayings_by_hand(pile, least, (1, 2))
                self.assertEqual(sayings(pile, least), told)
                self.assertEqual(sayings(pile, least, None), told)
                self.assertEqual(sayings(pile, least, (1, 2)), told)

    def test_in_lowest_terms_or_not(self):
        for pile in PILES:
            for top, bottom in BOUNDS:
                told = sayings(pile, 1, (top, bottom))
                for times in (2, 3, 10, 10 ** 15, 10 ** 59):
                    self.assertEqual(sayings(pile, 1, (top * times, bottom * times)), told)

    def test_at_a_share_and_right_beside_it(self):
        for pile in PILES[::5] + [SHOP]:
            told = sayings(pile, 1, (0, 1))
            for saying in told[::7]:
                top, bottom = saying[3]
                at = [other[:2] for other in sayings(pile, 1, (top, bottom))]
                beside = [other[:2] for other in sayings(pile, 1, (top * MOST ** 2 + 1, bottom * MOST ** 2))]
                self.assertIn(saying[:2], at)
                self.assertNotIn(saying[:2], beside)

    def test_a_bound_of_nought_leaves_none_out(self):
        for pile in PILES:
            told = first_five(sayings(pile, 1, (0, 1)))
            self.assertEqual(told, told_by_hand(pile, 1, (0, 1)))
            self.assertEqual(first_five(sayings(pile, 1, (0, 10 ** 60))), told)

    def test_above_one_there_is_none(self):
        for pile in PILES:
            for bound in ((2, 1), (3, 2), (10 ** 60, 10 ** 60 - 1), (10 ** 60, 1)):
                self.assertEqual(sayings(pile, 1, bound), ())

    def test_what_is_no_bound_is_refused(self):
        for thing in NO_BOUNDS:
            for pile in (SHOP, (0, ()), (2, ()), SMALL[-2]):
                for least in (1, 10 ** 60):
                    check_refused(self, NoShare, lambda: sayings(pile, least, thing), thing)

    def test_what_is_refused_stays(self):
        for thing in ([1, 2], {1: 2}, ([1], 2)):
            was = repr(thing)
            check_refused(self, NoShare, lambda: sayings(SHOP, 1, thing))
            self.assertEqual(repr(thing), was)


class TooManyWares(unittest.TestCase):
    def test_more_than_eight_wares_are_refused(self):
        for wares in (9, 10, 11, 12):
            for runs in ((), ((1, ()),), ((3, (0, 8)), (2, (1,))), ((MOST, tuple(range(wares))),) * 200):
                for bound in (None, (1, 2), (2, 4), (0, 1), (2, 1)):
                    for least in (1, 10 ** 60):
                        error = check_refused(self, TooGreat, lambda: sayings((wares, runs), least, bound))
                        self.assertEqual(error.most, 8)
                        self.assertIs(type(error.most), int)

    def test_without_a_bound_by_name(self):
        error = check_refused(self, TooGreat, lambda: sayings((9, ()), 1))
        self.assertEqual(error.most, 8)

    def test_eight_wares_are_not_refused(self):
        self.assertEqual(sayings((8, ((1, (7,)), (1, ()))), 1), (((), (7,), 1, (1, 2), (1, 1), False),))

    def test_what_is_no_bound_is_refused_ahead_of_it(self):
        for thing in NO_BOUNDS:
            for pile in [pile for pile in GREAT if pile[0] > 8]:
                check_refused(self, NoShare, lambda: sayings(pile, 1, thing), thing)


class Point2(unittest.TestCase):
    def test_asked_again_behind_another_one(self):
        for one, other in zip(PILES, PILES[1:] + PILES[:1]):
            first = sayings(one, 1)
            self.assertEqual(sayings(other, 1, (2, 3)), sayings_by_hand(other, 1, (2, 3)))
            self.assertEqual(sayings(one, 2, (0, 1)), sayings_by_hand(one, 2, (0, 1)))
            check_refused(self, NoShare, lambda: sayings(one, 1, (1, 0)))
            check_refused(self, TooGreat, lambda: sayings((9, one[1]), 1))
            self.assertEqual(sayings(one, 1), first)

    def test_what_is_handed_in_stays(self):
        for pile in PILES:
            bound = (2, 4)
            was = repr((pile, bound))
            sayings(pile, 1, bound)
            self.assertEqual(repr((pile, bound)), was)

    def test_the_order_of_the_runs_makes_no_difference(self):
        for pile in PILES:
            self.assertEqual(sayings((pile[0], pile[1][::-1]), 1), sayings(pile, 1))

    def test_the_arguments_names(self):
        told = (((), (0,), 2, (2, 3), (1, 1), False),)
        self.assertEqual(sayings(pile=(1, ((2, (0,)), (1, ()))), least=1, bound=(1, 3)), told)
        self.assertEqual(sayings(least=1, pile=(1, ((2, (0,)), (1, ())))), told)

    def test_nothing_is_refused_somewhat_beyond(self):
        pile = (3, ((MOST + 1, (0, 2)), (1, (1,)), (1, ())) * 70)
        for bound in ((0, 1), (1, 2), (10 ** 61, 10 ** 61 + 1)):
            self.assertEqual(sayings(pile, 1, bound), sayings_by_hand(pile, 1, bound))

    def test_a_least_of_nought_is_not_refused(self):
        for pile in PILES:
            told = sayings(pile, 0, (0, 1))
            self.assertEqual(first_five(saying for saying in told if saying[2] >= 1),
                             told_by_hand(pile, 1, (0, 1)))
            self.assertEqual(sayings(pile, 0), sayings_by_hand(pile, 1, (1, 2)))


if __name__ == "__main__":
    unittest.main()
