"""Point 4, and point 2 as far as it speaks of sets."""

import unittest
from itertools import combinations

from oftentogether.sets import is_ahead, is_set, joined, lies_below, mark_of, met, set_of
from tests.by_hand import Odd

ALL = tuple(range(12))
# Made without the program, in the order of sets: shorter ones first, then by the
# first place where they differ.
IN_ORDER = [some for size in range(13) for some in combinations(range(12), size)]
SOME = IN_ORDER[::37] + [(), (0,), (11,), (0, 11), ALL[1:], ALL[:-1], ALL]


class IsSet(unittest.TestCase):
    def told(self, answer, thing, *wares):
        self.assertIs(is_set(thing, *wares), answer, (thing, wares))

    def test_every_set_is_one(self):
        for some in IN_ORDER:
            self.told(True, some)

    def test_the_empty_set_is_one_of_any_wares(self):
        for wares in range(13):
            self.told(True, (), wares)

    def test_sets_of_fewer_wares(self):
        for wares in range(13):
            for some in SOME:
                self.told(not some or some[-1] < wares, some, wares)

    def test_wares_may_be_handed_in_by_name(self):
        self.assertIs(is_set((3,), wares=4), True)
        self.assertIs(is_set((3,), wares=3), False)
        self.assertIs(is_set(thing=(11,)), True)

    def test_a_ware_is_never_above_eleven(self):
        self.told(False, (12,))
        self.told(False, (0, 12))
        self.told(False, (10 ** 60,))
        self.told(False, (12,), 13)
        self.told(True, ALL, 13)

    def test_wares_that_fall_or_come_twice(self):
        for thing in ((1, 0), (0, 2, 1), (3, 1, 2), (0, 0), (0, 1, 1), (1, 2, 1), (11, 11),
                      ALL[::-1], ALL + (11,), ALL + (0,)):
            self.told(False, thing)

    def test_wares_below_nought(self):
        for thing in ((-1,), (-1, 0), (0, -1), (-12,), (-10 ** 30, 5)):
            self.told(False, thing)

    def test_true_and_false_are_no_wares(self):
        for thing in ((True,), (False,), (0, True), (False, 1), (False, True), (True, 2)):
            self.told(False, thing)

    def test_other_things_in_the_place_of_wares(self):
        for ware in (None, "1", "", 1.0, 0.0, 1j, (), (1,), [1], {}, b"\x01", Odd(), float("nan")):
            self.told(False, (ware,))
            self.told(False, (0, ware))
            self.told(False, (ware, 5))

    def test_things_of_other_sorts(self):
        for thing in (None, True, False, 0, 1, 11, -1, 0.5, 1j, "", "0", "01", [], [0], [0, 1],
                      {}, {0: 1}, {0, 1}, frozenset((0, 1)), range(3), b"", b"\x00\x01",
                      iter((0, 1)), Odd(), Odd, len, object()):
            self.told(False, thing)

    def test_tuples_within_tuples(self):
        deep = ()
        for step in range(3000):
            deep = (deep,)
        self.told(False, deep)
        self.told(False, ((),))
        self.told(False, ((0, 1),))
        self.told(False, (0, (1,)))

    def test_what_is_handed_in_stays(self):
        thing = [2, 1]
        is_set(thing)
        self.assertEqual(thing, [2, 1])
        inner = [0]
        is_set((0, inner))
        self.assertEqual(inner, [0])


class Marks(unittest.TestCase):
    def test_the_mark_is_the_sum_of_the_powers(self):
        for some in IN_ORDER:
            mark = sum(2 ** ware for ware in some)
            self.assertEqual(mark_of(some), mark)
            self.assertIs(type(mark_of(some)), int)
            self.assertEqual(set_of(mark), some)

    def test_all_marks(self):
        for mark in range(4096):
            some = set_of(mark)
            self.assertIs(type(some), tuple)
            self.assertTrue(is_set(some))
            self.assertEqual(sum(2 ** ware for ware in some), mark)
            self.assertEqual(mark_of(some), mark)

    def test_the_ends(self):
        self.assertEqual(mark_of(()), 0)
        self.assertEqual(set_of(0), ())
        self.assertEqual(mark_of((0,)), 1)
        self.assertEqual(set_of(2048), (11,))
        self.assertEqual(mark_of(ALL), 4095)
        self.assertEqual(set_of(4095), ALL)

    def test_nothing_is_refused_somewhat_beyond(self):
        self.assertEqual(mark_of((0, 12)), 4097)
        self.assertEqual(set_of(4096), (12,))


class TwoSets(unittest.TestCase):
    def test_lies_below(self):
        for one in SOME:
            for other in SOME:
                self.assertIs(lies_below(one, other), set(one) <= set(other), (one, other))

    def test_each_set_lies_below_itself(self):
        for some in IN_ORDER:
            self.assertIs(lies_below(some, some), True)

    def test_the_empty_set_lies_below_all_and_all_below_the_full_one(self):
        for some in IN_ORDER:
            self.assertIs(lies_below((), some), True)
            self.assertIs(lies_below(some, ALL), True)
            self.assertIs(lies_below(some, ()), some == ())
            self.assertIs(lies_below(ALL, some), some == ALL)

    def test_met_and_joined(self):
        for one in SOME:
            for other in SOME:
                both = met(one, other)
                either = joined(one, other)
                self.assertEqual(both, tuple(sorted(set(one) & set(other))))
                self.assertEqual(either, tuple(sorted(set(one) | set(other))))
                self.assertIs(type(both), tuple)
                self.assertIs(type(either), tuple)

    def test_met_and_joined_by_hand(self):
        self.assertEqual(met((0, 2, 5), (2, 3, 5)), (2, 5))
        self.assertEqual(met((0, 1), (2, 3)), ())
        self.assertEqual(met((), ALL), ())
        self.assertEqual(joined((3, 9), (0, 3, 11)), (0, 3, 9, 11))
        self.assertEqual(joined((), ()), ())
        self.assertEqual(joined((), (8,)), (8,))
        self.assertEqual(joined(ALL, (4,)), ALL)
        self.assertEqual(joined((10,), (9,)), (9, 10))


class Order(unittest.TestCase):
    def test_by_hand(self):
        self.assertIs(is_ahead((), (0,)), True)
        self.assertIs(is_ahead((11,), (0, 1)), True)
        self.assertIs(is_ahead((0, 1), (11,)), False)
        self.assertIs(is_ahead((0, 11), (1, 2)), True)
        self.assertIs(is_ahead((1, 2), (0, 11)), False)
        self.assertIs(is_ahead((0, 1, 5), (0, 2, 3)), True)
        self.assertIs(is_ahead((2,), (10,)), True)

    def test_no_set_goes_ahead_of_itself(self):
        for some in IN_ORDER:
            self.assertIs(is_ahead(some, some), False)

    def test_each_goes_ahead_of_the_one_behind_it(self):
        for one, other in zip(IN_ORDER, IN_ORDER[1:]):
            self.assertIs(is_ahead(one, other), True, (one, other))
            self.assertIs(is_ahead(other, one), False, (one, other))

    def test_far_ones(self):
        places = {some: place for place, some in enumerate(IN_ORDER)}
        for one in SOME:
            for other in SOME:
                self.assertIs(is_ahead(one, other), places[one] < places[other], (one, other))


class OneAnswer(unittest.TestCase):
    def test_asked_again(self):
        for one in SOME[::5]:
            for other in SOME[::5]:
                for asked in (lies_below, met, joined, is_ahead):
                    first = asked(one, other)
                    asked(other, one)
                    self.assertEqual(asked(one, other), first)
                    self.assertIs(type(asked(one, other)), type(first))


if __name__ == "__main__":
    unittest.main()
