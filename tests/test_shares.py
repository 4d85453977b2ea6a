"""Point 15, and point 2 as far as it speaks of shares."""

import random
import unittest
from fractions import Fraction
from math import gcd

from oftentogether.errors import NoShare
from oftentogether.shares import reaches, share
from tests.by_hand import Odd, check_refused

NO_NUMBERS = (-1, -2, -10 ** 20, True, False, None, "", "1", "one", (), (1,), (1, 2), [], [1], {},
              {1: 2}, {1}, 0.0, 1.0, 0.5, float("nan"), float("inf"), 1j, b"1", Fraction(1), range(3),
              int, object(), Odd(), len)


def number_pairs():
    made = [(top, bottom) for top in range(25) for bottom in range(1, 25)]
    source = random.Random(15)
    for size in (10 ** 3, 10 ** 15, 10 ** 30, 10 ** 60):
        for step in range(40):
            one = source.randint(0, size)
            other = source.randint(1, size)
            both = source.choice((1, 2, 6, 9973, 10 ** 9))
            made.extend([(one, other), (one * both, other * both), (other, max(1, one))])
    made.extend([(10 ** 15, 10 ** 15), (10 ** 60, 1), (1, 10 ** 60), (10 ** 60, 10 ** 60),
                 (0, 10 ** 60), (10 ** 15 - 1, 10 ** 15), (3 ** 60, 3 ** 58 * 2)])
    return made


PAIRS = number_pairs()


class Share(unittest.TestCase):
    def test_by_hand(self):
        for asked, told in (((1, 2), (1, 2)), ((2, 4), (1, 2)), ((6, 4), (3, 2)), ((5, 1), (5, 1)),
                            ((7, 7), (1, 1)), ((12, 18), (2, 3)), ((18, 12), (3, 2)), ((1, 9), (1, 9)),
                            ((9, 3), (3, 1)), ((35, 64), (35, 64))):
            self.assertEqual(share(*asked), told, asked)

    def test_of_nought(self):
        for bottom in (1, 2, 3, 12, 10 ** 15, 10 ** 60):
            self.assertEqual(share(0, bottom), (0, 1))

    def test_great_numbers(self):
        self.assertEqual(share(10 ** 15, 10 ** 14), (10, 1))
        self.assertEqual(share(10 ** 15 - 1, 10 ** 15), (10 ** 15 - 1, 10 ** 15))
        self.assertEqual(share(2 * (10 ** 15 + 1), 3 * (10 ** 15 + 1)), (2, 3))
        self.assertEqual(share(10 ** 60, 10 ** 60), (1, 1))
        self.assertEqual(share(10 ** 60 + 1, 10 ** 60), (10 ** 60 + 1, 10 ** 60))
        self.assertEqual(share(2 ** 53 + 1, 2 ** 53), (2 ** 53 + 1, 2 ** 53))

    def test_lowest_terms_of_the_same_worth(self):
        for top, bottom in PAIRS:
            told = share(top, bottom)
            self.assertIs(type(told), tuple)
            self.assertEqual([type(part) for part in told], [int, int])
            self.assertEqual(gcd(told[0], told[1]), 1, (top, bottom))
            self.assertEqual(told[0] * bottom, top * told[1], (top, bottom))
            self.assertGreaterEqual(told[1], 1)

    def test_a_share_of_a_share_is_itself(self):
        for top, bottom in PAIRS:
            told = share(top, bottom)
            self.assertEqual(share(told[0], told[1]), told)

    def test_the_arguments_names(self):
        self.assertEqual(share(top=2, bottom=6), (1, 3))
        self.assertEqual(share(bottom=6, top=2), (1, 3))


class Refused(unittest.TestCase):
    def test_a_bottom_of_nought(self):
        for top in (0, 1, 7, 10 ** 15, 10 ** 60):
            check_refused(self, NoShare, lambda: share(top, 0), top)

    def test_a_top_that_is_no_number(self):
        for thing in NO_NUMBERS:
            for bottom in (1, 2, 10 ** 15):
                check_refused(self, NoShare, lambda: share(thing, bottom), thing)

    def test_a_bottom_that_is_no_number(self):
        for thing in NO_NUMBERS:
            for top in (0, 1, 10 ** 15):
                check_refused(self, NoShare, lambda: share(top, thing), thing)

    def test_both(self):
        for one in NO_NUMBERS:
            check_refused(self, NoShare, lambda: share(one, one), one)
            check_refused(self, NoShare, lambda: share(one, 0), one)
        check_refused(self, NoShare, lambda: share(-1, -2))
        check_refused(self, NoShare, lambda: share(True, True))

    def test_what_is_refused_stays(self):
        for thing in ([1], {1: 2}, {3}):
            was = repr(thing)
            check_refused(self, NoShare, lambda: share(thing, 2))
            check_refused(self, NoShare, lambda: share(2, thing))
            self.assertEqual(repr(thing), was)


class Reaches(unittest.TestCase):
    def test_by_hand(self):
        for one, other, told in (((1, 2), (1, 3), True), ((1, 3), (1, 2), False), ((2, 3), (3, 5), True),
                                 ((3, 5), (2, 3), False), ((0, 1), (0, 1), True), ((0, 1), (1, 9), False),
                                 ((1, 9), (0, 1), True), ((1, 1), (1, 1), True), ((3, 2), (1, 1), True),
                                 ((1, 1), (3, 2), False), ((5, 1), (9, 2), True), ((9, 2), (5, 1), False)):
            self.assertIs(reaches(one, other), told, (one, other))

    def test_like_shares_reach_each_other(self):
        for top, bottom in PAIRS:
            self.assertIs(reaches(share(top, bottom), share(3 * top, 3 * bottom)), True)

    def test_both_ways(self):
        for one, other in zip(PAIRS, PAIRS[11:] + PAIRS[:11]):
            worth = Fraction(*one) - Fraction(*other)
            self.assertIs(reaches(share(*one), share(*other)), worth >= 0, (one, other))
            self.assertIs(reaches(share(*other), share(*one)), worth <= 0, (one, other))

    def test_shares_that_lie_close(self):
        one = (10 ** 60 - 1, 10 ** 60)
        other = (10 ** 60 - 2, 10 ** 60 - 1)
        self.assertIs(reaches(one, other), True)
        self.assertIs(reaches(other, one), False)
        self.assertIs(reaches(one, (1, 1)), False)
        self.assertIs(reaches((1, 1), one), True)

    def test_the_arguments_names(self):
        self.assertIs(reaches(one=(1, 2), other=(1, 3)), True)


class Point2(unittest.TestCase):
    def test_asked_again_behind_another_one(self):
        for one, other in zip(PAIRS, PAIRS[1:] + PAIRS[:1]):
            first = (share(*one), reaches(share(*one), share(*other)))
            share(*other)
            check_refused(self, NoShare, lambda: share(other[0], 0))
            reaches(share(*other), share(*one))
            self.assertEqual((share(*one), reaches(share(*one), share(*other))), first)


if __name__ == "__main__":
    unittest.main()
