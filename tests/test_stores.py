"""Points 19 to 22, and points 2 and 3 as far as they speak of stores."""

import random
import unittest

from oftentogether.errors import NoRun, NoStore, NotThere, TooGreat
from oftentogether.stores import Store
from tests.by_hand import (GREAT, MOST, SHOP, SMALL, Odd, check_pairs, check_refused, closed_by_hand,
                           counted_by_hand, filled, greatest_by_hand, often_by_hand, seldom_by_hand,
                           sets_in_order)

MOST_WINDOW = 10 ** 15
OTHERS = (None, True, False, "", "1", "(0,)", b"1", -1, 1.0, 0.5, [], [0], {}, {0: 1}, {0}, frozenset(),
          range(2), object(), Odd(), int, tuple)
NO_MANIES = OTHERS + (0, -MOST, MOST + 1, 10 ** 60, (), (1,), (True,))
NO_BASKETS = OTHERS + (0, 1, (3,), (0, 3), (1, 0), (0, 0), (0, 1, 1), (-1,), (-1, 0), (True,), (False,),
                       (0, True), (None,), ("0",), (0.0,), (1.0, 2), ((),), ((0,),), ([],), (Odd(),),
                       (0, Odd()), (11,), (12,), (10 ** 60,), [0, 1], "01", ["0"], [()])


class Kept:
    """A store that keeps its baskets one by one, each with the number of the run it came in."""

    def __init__(self, window=None):
        self.window = window
        self.baskets = []
        self.came = 0

    def runs(self, baskets):
        found = {}
        for number, basket in baskets:
            found.setdefault(number, []).append(basket)
        return tuple((len(found[number]), found[number][0]) for number in sorted(found))

    def put(self, many, basket):
        self.came += 1
        self.baskets += [(self.came, basket)] * many
        stay = len(self.baskets) if self.window is None else self.window
        gone = self.baskets[:max(0, len(self.baskets) - stay)]
        self.baskets = self.baskets[len(gone):]
        return self.runs(gone)

    def there(self, basket):
        return [one for one in self.baskets if one[1] == basket]

    def take(self, many, basket):
        for one in self.there(basket)[:many]:
            self.baskets.remove(one)

    def kept(self):
        return self.runs(self.baskets)


def check_answers(case, store, pile, leasts):
    case.assertEqual(store.pile(), pile)
    for some, number in counted_by_hand(pile):
        case.assertEqual(store.count(some), number, (pile, some))
    for least in leasts:
        case.assertEqual(store.often(least), often_by_hand(pile, least), (pile, least))
        case.assertEqual(store.closed(least), closed_by_hand(pile, least), (pile, least))
        case.assertEqual(store.greatest(least), greatest_by_hand(pile, least), (pile, least))
        case.assertEqual(store.seldom(least), seldom_by_hand(pile, least), (pile, least))


def check_no_runs(case, call):
    """Each call of put or take of a store of three wares with what is no run is refused."""
    for many in NO_MANIES:
        for basket in ((), (0, 1), (0, 1, 2), (3,), None):
            check_refused(case, NoRun, lambda: call(many, basket), (many, basket))
    for basket in NO_BASKETS:
        for many in (1, 2, MOST, 0):
            check_refused(case, NoRun, lambda: call(many, basket), (many, basket))


def check_runs(case, told):
    case.assertIs(type(told), tuple)
    for run in told:
        case.assertIs(type(run), tuple)
        case.assertEqual(len(run), 2)
        case.assertIs(type(run[0]), int)
        case.assertGreaterEqual(run[0], 1)
        case.assertIs(type(run[1]), tuple)


class Made(unittest.TestCase):
    def test_each_number_of_wares(self):
        for wares in range(13):
            self.assertEqual(Store(wares).pile(), (wares, ()))
            self.assertEqual(Store(wares, None).pile(), (wares, ()))
            full = tuple(range(wares))
            store = Store(wares, 1)
            self.assertEqual(store.put(1, full), ())
            self.assertEqual(store.pile(), (wares, ((1, full),)))

    def test_the_windows(self):
        for window in (1, 2, MOST, MOST_WINDOW - 1, MOST_WINDOW):
            self.assertEqual(Store(2, window).pile(), (2, ()))

    def test_other_wares(self):
        for wares in OTHERS + ((), (3,), 13, 14, 200, 10 ** 60, -12, "12"):
            for window in (None, 1, MOST_WINDOW, 0):
                check_refused(self, NoStore, lambda: Store(wares, window), (wares, window))

    def test_other_windows(self):
        for window in OTHERS[1:] + ((), (1,), 0, -MOST_WINDOW, MOST_WINDOW + 1, 10 ** 60):
            for wares in (0, 3, 12):
                check_refused(self, NoStore, lambda: Store(wares, window), (wares, window))

    def test_the_arguments_names(self):
        store = Store(wares=2, window=3)
        self.assertEqual(store.put(many=5, basket=(0,)), ((2, (0,)),))
        self.assertIsNone(store.take(many=1, basket=(0,)))
        self.assertEqual(store.count(some=(0,)), 2)
        self.assertEqual(store.often(least=2), (((), 2), ((0,), 2)))
        self.assertEqual(store.closed(least=2), (((0,), 2),))
        self.assertEqual(store.greatest(least=2), (((0,), 2),))
        self.assertEqual(store.seldom(least=2), (((1,), 0),))


class Put(unittest.TestCase):
    def test_in_the_order_in_which_they_came(self):
        store = Store(3)
        runs = ((2, (0, 1)), (1, ()), (MOST, (0, 1, 2)), (2, (0, 1)), (7, (2,)))
        for place, (many, basket) in enumerate(runs):
            self.assertEqual(store.put(many, basket), ())
            self.assertEqual(store.pile(), (3, runs[:place + 1]))

    def test_like_baskets_are_runs_of_their_own(self):
        store = filled(1, ((1, (0,)), (1, (0,)), (2, (0,))))
        self.assertEqual(store.pile(), (1, ((1, (0,)), (1, (0,)), (2, (0,)))))

    def test_whole_runs_go(self):
        store = filled(3, ((2, (0,)), (3, (1,)), (1, (2,))), 6)
        self.assertEqual(store.put(5, ()), ((2, (0,)), (3, (1,))))
        self.assertEqual(store.pile(), (3, ((1, (2,)), (5, ()))))
        self.assertEqual(store.put(1, (0,)), ((1, (2,)),))
        self.assertEqual(store.pile(), (3, ((5, ()), (1, (0,)))))

    def test_a_part_of_a_run_goes(self):
        store = filled(3, ((4, (0,)), (2, (1,))), 6)
        self.assertEqual(store.put(1, (2,)), ((1, (0,)),))
        self.assertEqual(store.pile(), (3, ((3, (0,)), (2, (1,)), (1, (2,)))))
        self.assertEqual(store.put(4, ()), ((3, (0,)), (1, (1,))))
        self.assertEqual(store.pile(), (3, ((1, (1,)), (1, (2,)), (4, ()))))

    def test_a_part_of_the_run_just_put_in_goes(self):
        store = Store(3, 4)
        self.assertEqual(store.put(9, (0,)), ((5, (0,)),))
        self.assertEqual(store.pile(), (3, ((4, (0,)),)))
        self.assertEqual(store.put(1, (1,)), ((1, (0,)),))
        self.assertEqual(store.put(7, (1,)), ((3, (0,)), (1, (1,)), (3, (1,))))
        self.assertEqual(store.pile(), (3, ((4, (1,)),)))
        self.assertEqual(store.put(4, (1,)), ((4, (1,)),))
        self.assertEqual(store.pile(), (3, ((4, (1,)),)))

    def test_just_as_many_as_the_window(self):
        store = Store(2, 5)
        self.assertEqual(store.put(2, (0,)), ())
        self.assertEqual(store.put(3, (1,)), ())
        self.assertEqual(store.put(1, (0, 1)), ((1, (0,)),))
        self.assertEqual(store.put(5, ()), ((1, (0,)), (3, (1,)), (1, (0, 1))))

    def test_the_window_of_one(self):
        store = Store(2, 1)
        self.assertEqual(store.put(1, (0,)), ())
        self.assertEqual(store.put(1, (1,)), ((1, (0,)),))
        self.assertEqual(store.put(MOST, (1,)), ((1, (1,)), (MOST - 1, (1,))))
        self.assertEqual(store.pile(), (2, ((1, (1,)),)))

    def test_the_greatest_window(self):
        store = Store(1, MOST_WINDOW)
        for step in range(199):
            store.put(MOST, (0,))
        self.assertEqual(store.put(MOST, ()), ())
        self.assertEqual(store.count(()), 200 * MOST)
        full = Store(1, 199 * MOST + 1)
        for step in range(199):
            self.assertEqual(full.put(MOST, (0,)), ())
        self.assertEqual(full.put(MOST, ()), ((MOST - 1, (0,)),))
        self.assertEqual(full.pile(), (1, ((1, (0,)),) + ((MOST, (0,)),) * 198 + ((MOST, ()),)))

    def test_room_that_was_taken_out_is_filled_again(self):
        store = filled(2, ((3, (0,)), (2, (1,))), 5)
        store.take(2, (0,))
        self.assertEqual(store.put(2, ()), ())
        self.assertEqual(store.put(1, ()), ((1, (0,)),))
        self.assertEqual(store.pile(), (2, ((2, (1,)), (2, ()), (1, ()))))

    def test_no_run(self):
        for window in (None, 4):
            store = filled(3, ((2, (0, 1)), (1, ())), window)
            check_no_runs(self, store.put)
            self.assertEqual(store.pile(), (3, ((2, (0, 1)), (1, ()))))

    def test_the_wares_are_those_of_the_store(self):
        for wares in range(13):
            store = Store(wares)
            check_refused(self, NoRun, lambda: store.put(1, (wares,)))
            check_refused(self, NoRun, lambda: store.put(1, tuple(range(wares + 1))))
            self.assertEqual(store.put(1, tuple(range(wares))), ())
            self.assertEqual(store.pile(), (wares, ((1, tuple(range(wares))),)))

    def test_two_hundred_runs_at_most(self):
        for window in (None, 200, 205, MOST_WINDOW):
            store = Store(2, window)
            for step in range(200):
                self.assertEqual(store.put(1, (step % 2,)), ())
            before = store.pile()
            self.assertEqual(len(before[1]), 200)
            for many in (1, 200, MOST):
                self.assertEqual(check_refused(self, TooGreat, lambda: store.put(many, ())).most, 200)
            self.assertEqual(store.pile(), before)
            for many, basket in ((0, ()), (1, (2,)), (True, ()), (1, [])):
                check_refused(self, NoRun, lambda: store.put(many, basket))
            store.take(1, (0,))
            self.assertEqual(store.pile(), (2, before[1][1:]))
            self.assertEqual(store.put(1, ()), ())
            self.assertEqual(store.pile(), (2, before[1][1:] + ((1, ()),)))
            check_refused(self, TooGreat, lambda: store.put(1, ()))

    def test_runs_that_went_leave_room(self):
        store = Store(1, 150)
        for step in range(500):
            told = store.put(1, (0,))
            self.assertEqual(told, ((1, (0,)),) if step >= 150 else ())
        self.assertEqual(store.pile(), (1, ((1, (0,)),) * 150))


class Take(unittest.TestCase):
    def test_of_the_oldest_run(self):
        store = filled(2, ((1, ()), (3, (0,)), (2, (1,)), (4, (0,))))
        self.assertIsNone(store.take(2, (0,)))
        self.assertEqual(store.pile(), (2, ((1, ()), (1, (0,)), (2, (1,)), (4, (0,)))))

    def test_a_run_of_which_nothing_is_left(self):
        store = filled(2, ((1, ()), (3, (0,)), (2, (1,)), (4, (0,))))
        store.take(3, (0,))
        self.assertEqual(store.pile(), (2, ((1, ()), (2, (1,)), (4, (0,)))))
        store.take(2, (1,))
        self.assertEqual(store.pile(), (2, ((1, ()), (4, (0,)))))

    def test_over_several_runs(self):
        store = filled(2, ((1, (0,)), (3, (0,)), (2, (1,)), (4, (0,)), (1, (0,))))
        store.take(6, (0,))
        self.assertEqual(store.pile(), (2, ((2, (1,)), (2, (0,)), (1, (0,)))))
        store.take(3, (0,))
        self.assertEqual(store.pile(), (2, ((2, (1,)),)))

    def test_only_baskets_just_like_it(self):
        store = filled(3, ((5, (0, 1)), (5, (0, 1, 2)), (1, (0,)), (5, ())))
        self.assertEqual(check_refused(self, NotThere, lambda: store.take(2, (0,))).there, 1)
        self.assertEqual(check_refused(self, NotThere, lambda: store.take(1, (1,))).there, 0)
        store.take(1, (0,))
        store.take(5, ())
        self.assertEqual(store.pile(), (3, ((5, (0, 1)), (5, (0, 1, 2)))))

    def test_there(self):
        store = filled(2, ((1, (0,)), (3, (0,)), (2, (1,)), (MOST, ()), (MOST, ())))
        before = store.pile()
        for many, basket, there in ((5, (0,), 4), (MOST, (0,), 4), (3, (1,), 2), (1, (0, 1), 0),
                                    (MOST, (0, 1), 0)):
            error = check_refused(self, NotThere, lambda: store.take(many, basket))
            self.assertEqual(error.there, there)
            self.assertIs(type(error.there), int)
            self.assertEqual(store.pile(), before)
        store.take(MOST, ())
        store.take(1, ())
        self.assertEqual(check_refused(self, NotThere, lambda: store.take(MOST, ())).there, MOST - 1)

    def test_of_an_empty_store(self):
        for wares in range(13):
            store = Store(wares)
            full = tuple(range(wares))
            self.assertEqual(check_refused(self, NotThere, lambda: store.take(1, full)).there, 0)
            store.put(1, full)
            store.take(1, full)
            self.assertEqual(check_refused(self, NotThere, lambda: store.take(1, full)).there, 0)
            self.assertEqual(store.pile(), (wares, ()))

    def test_what_went_by_the_window_is_not_there(self):
        store = filled(2, ((3, (0,)), (4, (1,))), 5)
        self.assertEqual(check_refused(self, NotThere, lambda: store.take(2, (0,))).there, 1)
        store.take(1, (0,))
        self.assertEqual(check_refused(self, NotThere, lambda: store.take(1, (0,))).there, 0)

    def test_no_run(self):
        for runs in ((), ((2, (0, 1)), (1, ()), (MOST, (0, 1)))):
            store = filled(3, runs)
            check_no_runs(self, store.take)
            self.assertEqual(store.pile(), (3, runs))

    def test_more_than_a_run_may_have_is_no_run_though_they_are_there(self):
        store = filled(1, ((MOST, (0,)), (MOST, (0,))))
        check_refused(self, NoRun, lambda: store.take(MOST + 1, (0,)))
        self.assertEqual(store.pile(), (1, ((MOST, (0,)), (MOST, (0,)))))


class Told(unittest.TestCase):
    def test_by_hand(self):
        store = filled(4, SHOP[1])
        self.assertEqual(store.pile(), SHOP)
        self.assertEqual([store.count(some) for some in ((), (0,), (0, 1), (2,), (1, 3))], [22, 13, 6, 0, 6])
        self.assertEqual(store.often(7), (((), 22), ((0,), 13), ((1,), 10)))
        self.assertEqual(store.closed(6), (((), 22), ((0,), 13), ((1,), 10), ((0, 1), 6), ((1, 3), 6)))
        self.assertEqual(store.greatest(6), (((0, 1), 6), ((1, 3), 6)))
        self.assertEqual(store.seldom(6), (((2,), 0), ((0, 3), 2)))

    def test_of_no_baskets(self):
        for wares in range(13):
            store = Store(wares)
            for least in (1, 2, 10 ** 60):
                self.assertEqual(store.often(least), ())
                self.assertEqual(store.closed(least), ())
                self.assertEqual(store.greatest(least), ())
                self.assertEqual(store.seldom(least), (((), 0),))
            self.assertEqual(store.count(()), 0)

    def test_piles_put_in(self):
        for pile in SMALL + GREAT[::5]:
            store = filled(pile[0], pile[1])
            baskets = sum(many for many, basket in pile[1])
            leasts = (1, 3, max(1, baskets), baskets + 1) if pile[0] < 7 else (2, baskets + 1)
            check_answers(self, store, pile, leasts)

    def test_the_form(self):
        for pile in SMALL[::3]:
            store = filled(pile[0], pile[1])
            check_runs(self, store.pile()[1])
            for told in (store.often(1), store.closed(1), store.greatest(1), store.seldom(1)):
                check_pairs(self, told, pile[0])


class StepByStep(unittest.TestCase):
    def one_step(self, source, store, kept, baskets):
        many = source.choice((1, 1, 2, 3, 5, 9))
        basket = source.choice(baskets)
        if source.random() < 0.5:
            told = store.put(many, basket)
            self.assertEqual(told, kept.put(many, basket))
            check_runs(self, told)
        elif len(kept.there(basket)) < many:
            error = check_refused(self, NotThere, lambda: store.take(many, basket))
            self.assertEqual(error.there, len(kept.there(basket)))
        else:
            self.assertIsNone(store.take(many, basket))
            kept.take(many, basket)

    def test_put_and_taken_in_any_order(self):
        source = random.Random(19)
        for wares in (0, 1, 2, 3, 4):
            for window in (None, 1, 2, 5, 8, 13, 40):
                store = Store(wares, window)
                kept = Kept(window)
                baskets = [source.choice(sets_in_order(wares)) for step in range(3)]
                for step in range(60):
                    self.one_step(source, store, kept, baskets)
                    if source.random() < 0.1:
                        check_refused(self, NoRun, lambda: store.put(0, ()))
                        check_refused(self, NoRun, lambda: store.take(1, (wares,)))
                    check_answers(self, store, (wares, kept.kept()), (1, source.choice((2, 3, 6))))

    def test_many_wares(self):
        source = random.Random(20)
        for wares, window in ((9, None), (12, 30)):
            store = Store(wares, window)
            kept = Kept(window)
            baskets = [source.choice(sets_in_order(wares)) for step in range(4)]
            for step in range(40):
                self.one_step(source, store, kept, baskets)
                pile = (wares, kept.kept())
                self.assertEqual(store.pile(), pile)
                if step % 20 == 19:
                    check_answers(self, store, pile, (4,))


class Point2(unittest.TestCase):
    def test_asked_again_behind_other_questions(self):
        store = filled(4, SHOP[1])
        first = (store.pile(), store.count((0,)), store.often(3), store.closed(3), store.greatest(3),
                 store.seldom(3))
        store.often(1)
        store.seldom(1)
        store.closed(9)
        check_refused(self, NoRun, lambda: store.put(1, (4,)))
        check_refused(self, NotThere, lambda: store.take(1, (2,)))
        again = (store.pile(), store.count((0,)), store.often(3), store.closed(3), store.greatest(3),
                 store.seldom(3))
        self.assertEqual(again, first)

    def test_what_was_told_stays_as_it_was(self):
        store = Store(2, 5)
        store.put(3, (0,))
        before = store.pile()
        gone = store.put(4, (1,))
        store.take(1, (0,))
        store.put(9, ())
        self.assertEqual(before, (2, ((3, (0,)),)))
        self.assertEqual(gone, ((2, (0,)),))

    def test_two_stores_have_nothing_in_common(self):
        one = Store(2, 5)
        other = Store(2)
        one.put(3, (0,))
        self.assertEqual(other.pile(), (2, ()))
        other.put(9, (0, 1))
        one.take(1, (0,))
        self.assertEqual(one.pile(), (2, ((2, (0,)),)))
        self.assertEqual(other.pile(), (2, ((9, (0, 1)),)))
        self.assertEqual(Store(2, 5).pile(), (2, ()))

    def test_the_same_steps_lead_to_the_same_answers(self):
        for window in (None, 6):
            stores = [Store(4, window), Store(4, window)]
            for many, basket in SHOP[1]:
                self.assertEqual(stores[0].put(many, basket), stores[1].put(many, basket))
                stores[1].often(2)
                self.assertEqual(stores[0].pile(), stores[1].pile())
                self.assertEqual(stores[0].often(2), stores[1].often(2))

    def test_what_is_handed_in_stays(self):
        for basket in ([0, 1], [], {0: 1}):
            was = repr(basket)
            store = Store(3)
            check_refused(self, NoRun, lambda: store.put(1, basket))
            check_refused(self, NoRun, lambda: store.take(1, basket))
            self.assertEqual(repr(basket), was)

    def test_a_least_beyond_what_is_asked_is_not_refused(self):
        store = filled(2, ((2, (0,)), (1, (1,))))
        self.assertEqual(store.often(0), (((), 3), ((0,), 2), ((1,), 1), ((0, 1), 0)))
        self.assertEqual(store.often(10 ** 61), ())


if __name__ == "__main__":
    unittest.main()
