"""Points 5, 6 and 7, and point 2 as far as it speaks of piles."""

import random
import unittest

from oftentogether.piles import columns, count, is_pile, tree
from oftentogether.sets import set_of

ALL = tuple(range(12))
MOST = 10 ** 12
SHOP = (4, ((3, (0, 1)), (2, (0, 1, 3)), (5, ()), (1, (0, 1)), (4, (1, 3)), (7, (0,))))


def made_piles():
    source = random.Random(20261116)
    made = [(wares, ()) for wares in range(13)]
    for wares in range(13):
        for size in (1, 2, 5, 30):
            runs = [(source.choice((1, 2, 9, MOST)), set_of(source.randrange(2 ** wares)))
                    for step in range(size)]
            made.append((wares, tuple(runs)))
    made.append((12, tuple((MOST, ALL) for step in range(200))))
    made.append((12, tuple((k + 1, set_of(source.randrange(4096))) for k in range(200))))
    return made


PILES = made_piles() + [SHOP]


class IsPile(unittest.TestCase):
    def told(self, answer, thing):
        self.assertIs(is_pile(thing), answer, thing)

    def test_ordinary_ones(self):
        for pile in PILES:
            self.told(True, pile)

    def test_the_wares(self):
        self.told(True, (0, ()))
        self.told(True, (12, ()))
        for wares in (13, 200, 10 ** 60, -1, -12, True, False, None, "3", "", 3.0, (3,), [], ()):
            self.told(False, (wares, ()))

    def test_how_many_runs(self):
        for wares in (0, 12):
            self.told(True, (wares, ((1, ()),) * 199))
            self.told(True, (wares, ((1, ()),) * 200))
            self.told(False, (wares, ((1, ()),) * 201))
        self.told(True, (12, ((MOST, ALL),) * 200))
        self.told(False, (12, ((MOST, ALL),) * 201))

    def test_many(self):
        for many in (1, 2, MOST - 1, MOST):
            self.told(True, (3, ((many, (0, 2)),)))
        for many in (0, -1, MOST + 1, 10 ** 60, True, False, None, "1", 1.0, (1,), [1], ()):
            self.told(False, (3, ((many, (0, 2)),)))
            self.told(False, (3, ((1, ()), (many, (0, 2)))))

    def test_baskets_of_other_wares(self):
        self.told(True, (3, ((1, (0, 1, 2)),)))
        self.told(False, (2, ((1, (0, 1, 2)),)))
        self.told(True, (0, ((1, ()),)))
        self.told(False, (0, ((1, (0,)),)))
        self.told(False, (12, ((1, (12,)),)))
        self.told(False, (1, ((1, (0,)), (1, ()), (1, (1,)))))

    def test_baskets_that_are_no_sets(self):
        for basket in ((1, 0), (0, 0), (-1,), (True,), (False,), (None,), ("0",), (0.0,), ((),),
                       ((0,),), [], [0], None, 0, True, "", "0", {}, {0}, range(2)):
            self.told(False, (3, ((1, basket),)))

    def test_like_baskets(self):
        self.told(True, (2, ((1, (0,)), (1, (0,)), (5, (0,)))))

    def test_runs_of_another_form(self):
        for run in ((), (1,), (1, (), ()), (1, (0,), 0), ((0,), 1), [1, (0,)], [1, ()], None, 1,
                    True, "1:", {1: ()}, ((1, ()),)):
            self.told(False, (3, (run,)))
            self.told(False, (3, ((1, (0,)), run)))

    def test_runs_that_are_no_tuple(self):
        for runs in ([], [(1, ())], None, 0, 1, True, False, "", "1:", {}, {(1, ())}, {(1, ()): 2},
                     iter(()), range(0)):
            self.told(False, (3, runs))

    def test_things_of_other_sorts(self):
        for thing in (None, True, False, 0, 3, -1, 0.5, "", "3", (), (3,), (3, (), ()), ((), 3),
                      [], [3, ()], [3, ((1, ()),)], {}, {3: ()}, frozenset((3, ())), range(2),
                      b"ab", len, object(), (0, 1), ((3, ()),), "ab"):
            self.told(False, thing)

    def test_tuples_within_tuples(self):
        deep = ()
        for step in range(3000):
            deep = (deep,)
        self.assertIs(is_pile(deep), False)
        self.assertIs(is_pile((deep, ())), False)
        self.assertIs(is_pile((3, deep)), False)
        self.assertIs(is_pile((3, ((1, deep),))), False)

    def test_what_is_handed_in_stays(self):
        thing = [3, [[1, [0, 2]]]]
        is_pile(thing)
        self.assertEqual(thing, [3, [[1, [0, 2]]]])
        runs = [(1, (0,))]
        is_pile((3, runs))
        self.assertEqual(runs, [(1, (0,))])


class Count(unittest.TestCase):
    def test_by_hand(self):
        asked = {(): 22, (0,): 13, (1,): 10, (2,): 0, (3,): 6, (0, 1): 6, (0, 3): 2, (1, 3): 6,
                 (0, 1, 3): 2, (0, 2): 0, (0, 1, 2, 3): 0}
        for some, counted in asked.items():
            self.assertEqual(count(SHOP, some), counted, some)

    def test_the_count_of_the_empty_set_is_that_of_all_baskets(self):
        for pile in PILES:
            self.assertEqual(count(pile, ()), sum(many for many, basket in pile[1]))

    def test_without_runs(self):
        for wares in range(13):
            self.assertEqual(count((wares, ()), ()), 0)
            self.assertEqual(count((wares, ()), tuple(range(wares))), 0)

    def test_great_ones(self):
        self.assertEqual(count((12, ((MOST, ALL),) * 200), ALL), 200 * MOST)

    def test_like_baskets_are_counted_each(self):
        self.assertEqual(count((1, ((1, (0,)), (1, (0,)), (5, (0,)))), (0,)), 7)

    def test_basket_by_basket(self):
        for pile in PILES:
            for mark in range(0, 2 ** pile[0], 29):
                some = set_of(mark)
                counted = sum(many for many, basket in pile[1] if set(some) <= set(basket))
                self.assertEqual(count(pile, some), counted)
                self.assertIs(type(count(pile, some)), int)


class Columns(unittest.TestCase):
    def test_by_hand(self):
        self.assertEqual(columns(SHOP), (1 + 2 + 8 + 32, 1 + 2 + 8 + 16, 0, 2 + 16))

    def test_no_wares(self):
        self.assertEqual(columns((0, ())), ())
        self.assertEqual(columns((0, ((4, ()), (1, ())))), ())

    def test_without_runs(self):
        for wares in range(13):
            self.assertEqual(columns((wares, ())), (0,) * wares)

    def test_a_ware_that_no_run_has(self):
        self.assertEqual(columns((3, ((9, (0, 2)), (1, (2,))))), (1, 0, 3))
        self.assertEqual(columns((12, ((1, ()),))), (0,) * 12)

    def test_like_baskets_are_runs_of_their_own(self):
        self.assertEqual(columns((1, ((5, (0,)), (5, (0,)), (5, (0,))))), (7,))

    def test_two_hundred_runs(self):
        self.assertEqual(columns((12, ((MOST, ALL),) * 200)), (2 ** 200 - 1,) * 12)

    def test_run_by_run(self):
        for pile in PILES:
            told = columns(pile)
            self.assertIs(type(told), tuple)
            self.assertEqual(len(told), pile[0])
            for ware, mark in enumerate(told):
                self.assertIs(type(mark), int)
                self.assertLess(mark, 2 ** len(pile[1]))
                for place, run in enumerate(pile[1]):
                    self.assertEqual(mark // 2 ** place % 2 == 1, ware in run[1])


def nodes_below(node, way):
    found = {way: node[0]}
    for ware, lower in node[1]:
        found.update(nodes_below(lower, way + (ware,)))
    return found


class Tree(unittest.TestCase):
    def test_by_hand(self):
        self.assertEqual(tree(SHOP), (22, ((0, (13, ((1, (6, ((3, (2, ())),))),))),
                                           (1, (4, ((3, (4, ())),))))))

    def test_without_runs(self):
        for wares in range(13):
            self.assertEqual(tree((wares, ())), (0, ()))

    def test_empty_baskets_end_at_the_top(self):
        self.assertEqual(tree((0, ((3, ()), (4, ())))), (7, ()))
        self.assertEqual(tree((2, ((3, ()), (4, (1,))))), (7, ((1, (4, ())),)))

    def test_baskets_that_begin_alike_go_together(self):
        pile = (4, ((1, (0, 1, 3)), (2, (0, 1, 2)), (4, (0, 1)), (8, (0, 2)), (16, (1, 2))))
        self.assertEqual(tree(pile), (31, (
            (0, (15, ((1, (7, ((2, (2, ())), (3, (1, ()))))), (2, (8, ()))))),
            (1, (16, ((2, (16, ())),))))))

    def test_baskets_that_only_end_alike_go_apart(self):
        self.assertEqual(tree((3, ((1, (0, 2)), (1, (1, 2))))), (2, (
            (0, (1, ((2, (1, ())),))), (1, (1, ((2, (1, ())),))))))

    def test_all_twelve_wares(self):
        node = (5, ())
        for ware in reversed(ALL):
            node = (5, ((ware, node),))
        self.assertEqual(tree((12, ((2, ALL), (3, ALL)))), node)

    def test_the_order_of_the_runs_makes_no_difference(self):
        for pile in PILES:
            self.assertEqual(tree((pile[0], pile[1][::-1])), tree(pile))

    def test_each_node_counts_the_baskets_that_begin_so(self):
        for pile in PILES:
            ways = {()}
            for many, basket in pile[1]:
                ways.update(basket[:size] for size in range(len(basket) + 1))
            counted = {way: sum(many for many, basket in pile[1] if basket[:len(way)] == way)
                       for way in ways}
            self.assertEqual(nodes_below(tree(pile), ()), counted)

    def test_the_form_of_the_nodes(self):
        for pile in PILES:
            self.check_node(tree(pile), True, pile[0])

    def check_node(self, node, top, wares):
        self.assertIs(type(node), tuple)
        self.assertEqual(len(node), 2)
        self.assertIs(type(node[0]), int)
        self.assertGreaterEqual(node[0], 0 if top else 1)
        self.assertIs(type(node[1]), tuple)
        led = [branch[0] for branch in node[1]]
        self.assertEqual(led, sorted(set(led)))
        for branch in node[1]:
            self.assertIs(type(branch), tuple)
            self.assertEqual(len(branch), 2)
            self.assertIs(type(branch[0]), int)
            self.assertLess(branch[0], wares)
            self.check_node(branch[1], False, wares)


class Point2(unittest.TestCase):
    def test_the_same_question_has_one_answer(self):
        first = [(is_pile(pile), count(pile, ()), columns(pile), tree(pile)) for pile in PILES]
        again = [(is_pile(pile), count(pile, ()), columns(pile), tree(pile)) for pile in PILES]
        self.assertEqual(first, again)

    def test_what_is_handed_in_stays(self):
        self.assertEqual(PILES, made_piles() + [SHOP])
        for pile in PILES:
            was = repr(pile)
            is_pile(pile)
            count(pile, ())
            columns(pile)
            tree(pile)
            self.assertEqual(repr(pile), was)

    def test_nothing_is_refused_somewhat_beyond(self):
        pile = (13, ((MOST + 1, (0, 12)),) * 201)
        self.assertEqual(count(pile, (12,)), 201 * (MOST + 1))
        self.assertEqual(columns(pile)[12], 2 ** 201 - 1)
        self.assertEqual(tree(pile)[0], 201 * (MOST + 1))


if __name__ == "__main__":
    unittest.main()
