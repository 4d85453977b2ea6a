"""Points 23 and 24, and point 2 as far as it speaks of kinds."""

import random
import unittest
from itertools import product

from oftentogether.errors import NoTree
from oftentogether.kinds import lean, lifted, often_kinds, standing_above
from oftentogether.piles import count, is_pile
from tests.by_hand import (GREAT, MOST, SHOP, SMALL, Odd, check_pairs, check_refused, check_sets,
                           often_by_hand, random_pile, sets_in_order)

# Two kinds of bread and one of milk: 0 and 1 stand under 4, 2 under 5, 4 and 5 under 6; 3 stands alone.
FOOD = (4, 4, 5, None, 6, 6, None)
MEALS = (7, ((3, (0, 2)), (2, (1,)), (1, (3,)), (4, (0, 4)), (5, ()), (1, (2, 3, 6))))


def all_trees(wares):
    """Every tuple that tells for each ware None or a greater one."""
    return list(product(*[(None,) + tuple(range(ware + 1, wares)) for ware in range(wares)]))


def random_tree(source, wares):
    return tuple(source.choice((None,) + tuple(range(ware + 1, wares)) * 2) for ware in range(wares))


def some_trees(wares):
    source = random.Random(wares)
    chain = tuple(range(1, wares)) + (None,)
    top = (wares - 1,) * (wares - 1) + (None,)
    return [(None,) * wares] + ([chain, top] if wares else []) + [
        random_tree(source, wares) for step in range(4)]


def higher_by_hand(above, ware):
    """A step up from whatever stands above already, until nothing more is found."""
    found = set()
    while True:
        more = {above[lower] for lower in found | {ware}} - {None}
        if more <= found:
            return found
        found |= more


def lean_by_hand(above, some):
    return tuple(ware for ware in some
                 if not any(ware in higher_by_hand(above, other) for other in some))


def lifted_by_hand(pile, above):
    runs = []
    for many, basket in pile[1]:
        wares = set(basket).union(*[higher_by_hand(above, ware) for ware in basket])
        runs.append((many, tuple(sorted(wares))))
    return (pile[0], tuple(runs))


def often_kinds_by_hand(pile, above, least):
    return tuple(pair for pair in often_by_hand(lifted_by_hand(pile, above), least)
                 if lean_by_hand(above, pair[0]) == pair[0])


def no_trees(wares):
    """What is none for so many wares, of any sort."""
    none = (None,) * wares
    found = [None, True, False, 0, wares, "", "None", b"", 1.0, [], list(none), {}, dict(enumerate(none)),
             set(), frozenset(), range(wares), object(), Odd(), tuple, none + (None,), none + (wares,)]
    found += [(None,) * (wares + 3), (none,), "n" * wares]
    if wares:
        found += [none[1:], ()]
    for ware in range(wares):
        for higher in (ware, ware - 1, 0, -1, wares, wares + 1, 12, 10 ** 60, True, False, "", "1", str(wares - 1),
                       1.0, float(wares - 1), (), (wares - 1,), [], [wares - 1], {}, object(), Odd(), int):
            if not (type(higher) is int and ware < higher < wares):
                found.append(none[:ware] + (higher,) + none[ware + 1:])
    return found


class StandingAbove(unittest.TestCase):
    def test_by_hand(self):
        told = ((4, 6), (4, 6), (5, 6), (), (6,), (6,), ())
        self.assertEqual(tuple(standing_above(FOOD, ware) for ware in range(7)), told)

    def test_every_ware_of_every_tree(self):
        for wares in range(7):
            for above in all_trees(wares):
                for ware in range(wares):
                    self.assertEqual(standing_above(above, ware), tuple(sorted(higher_by_hand(above, ware))))

    def test_great_trees(self):
        for wares in range(13):
            for above in some_trees(wares):
                for ware in range(wares):
                    told = standing_above(above, ware)
                    self.assertEqual(told, tuple(sorted(higher_by_hand(above, ware))), (above, ware))
                    check_sets(self, (told,), wares)

    def test_a_chain_of_all_wares(self):
        for wares in range(1, 13):
            above = tuple(range(1, wares)) + (None,)
            for ware in range(wares):
                self.assertEqual(standing_above(above, ware), tuple(range(ware + 1, wares)))

    def test_without_kinds(self):
        for wares in range(13):
            for ware in range(wares):
                self.assertEqual(standing_above((None,) * wares, ware), ())


class Lean(unittest.TestCase):
    def test_by_hand(self):
        for some, told in (((), ()), ((0,), (0,)), ((0, 4), (0,)), ((0, 6), (0,)), ((4, 6), (4,)),
                           ((0, 1, 4), (0, 1)), ((0, 5), (0, 5)), ((0, 5, 6), (0, 5)), ((3, 6), (3, 6)),
                           ((2, 3, 5), (2, 3)), ((0, 1, 2, 3, 4, 5, 6), (0, 1, 2, 3)), ((0, 1), (0, 1))):
            self.assertEqual(lean(FOOD, some), told, some)

    def test_every_set_of_every_tree(self):
        for wares in range(6):
            for above in all_trees(wares):
                for some in sets_in_order(wares):
                    self.assertEqual(lean(above, some), lean_by_hand(above, some), (above, some))

    def test_great_trees(self):
        for wares in range(6, 13):
            for above in some_trees(wares):
                for some in sets_in_order(wares)[::17] + [tuple(range(wares))]:
                    told = lean(above, some)
                    self.assertEqual(told, lean_by_hand(above, some), (above, some))
                    self.assertEqual(lean(above, told), told)
                    check_sets(self, (told,), wares)

    def test_the_same_count_in_the_lifted_pile(self):
        for pile in SMALL[::2]:
            for above in some_trees(pile[0]):
                raised = lifted(pile, above)
                for some in sets_in_order(pile[0]):
                    self.assertEqual(count(raised, lean(above, some)), count(raised, some), (pile, above, some))

    def test_the_same_count_with_many_wares(self):
        for pile in GREAT[::4]:
            for above in some_trees(pile[0]):
                raised = lifted(pile, above)
                for some in sets_in_order(pile[0])[::31]:
                    self.assertEqual(count(raised, lean(above, some)), count(raised, some), (pile, above, some))


class Lifted(unittest.TestCase):
    def test_by_hand(self):
        self.assertEqual(lifted(MEALS, FOOD), (7, (
            (3, (0, 2, 4, 5, 6)), (2, (1, 4, 6)), (1, (3,)), (4, (0, 4, 6)), (5, ()), (1, (2, 3, 5, 6)))))

    def test_small_piles(self):
        for pile in SMALL:
            for above in some_trees(pile[0]) + all_trees(min(pile[0], 3)) * (pile[0] <= 3):
                told = lifted(pile, above)
                self.assertEqual(told, lifted_by_hand(pile, above), (pile, above))
                self.assertTrue(is_pile(told))

    def test_great_piles(self):
        for pile in GREAT + [random_pile(random.Random(23), 12, 200, (1, 2, MOST))]:
            for above in some_trees(pile[0]):
                self.assertEqual(lifted(pile, above), lifted_by_hand(pile, above), (pile, above))

    def test_without_kinds_it_is_the_pile(self):
        for pile in SMALL + GREAT:
            self.assertEqual(lifted(pile, (None,) * pile[0]), pile)

    def test_lifted_again_it_stays(self):
        for pile in SMALL[::3]:
            for above in some_trees(pile[0]):
                self.assertEqual(lifted(lifted(pile, above), above), lifted(pile, above))

    def test_like_runs_stay_runs_of_their_own(self):
        pile = (2, ((1, (0,)), (1, (0, 1)), (1, (0,))))
        self.assertEqual(lifted(pile, (1, None)), (2, ((1, (0, 1)),) * 3))

    def test_the_form(self):
        told = lifted(MEALS, FOOD)
        self.assertIs(type(told), tuple)
        self.assertIs(type(told[1]), tuple)
        for run in told[1]:
            self.assertIs(type(run), tuple)
            check_sets(self, (run[1],), 7)


class OftenKinds(unittest.TestCase):
    def test_by_hand(self):
        self.assertEqual(often_kinds(MEALS, FOOD, 4), (
            ((), 16), ((0,), 7), ((2,), 4), ((4,), 9), ((5,), 4), ((6,), 10)))
        self.assertEqual(often_kinds(MEALS, FOOD, 3)[6:], (((0, 2), 3), ((0, 5), 3), ((2, 4), 3), ((4, 5), 3)))
        self.assertEqual(often_kinds(MEALS, FOOD, 17), ())

    def test_small_piles(self):
        for pile in SMALL:
            baskets = sum(many for many, basket in pile[1])
            for above in some_trees(pile[0]):
                for least in (1, 2, 5, max(1, baskets // 2), max(1, baskets), baskets + 1):
                    told = often_kinds(pile, above, least)
                    self.assertEqual(told, often_kinds_by_hand(pile, above, least), (pile, above, least))
                    check_pairs(self, told, pile[0])

    def test_great_piles(self):
        for pile in GREAT[::5]:
            for above in some_trees(pile[0])[:4]:
                for least in (1, 3):
                    self.assertEqual(often_kinds(pile, above, least),
                                     often_kinds_by_hand(pile, above, least), (pile, above, least))

    def test_without_kinds_it_is_what_is_often(self):
        for pile in SMALL:
            for least in (1, 3):
                self.assertEqual(often_kinds(pile, (None,) * pile[0], least), often_by_hand(pile, least))

    def test_of_no_baskets_there_is_none(self):
        for wares in range(13):
            for above in some_trees(wares):
                self.assertEqual(often_kinds((wares, ()), above, 1), ())


class Refused(unittest.TestCase):
    def test_what_is_no_tree(self):
        for wares in range(13):
            full = tuple(range(wares))
            for thing in no_trees(wares):
                for pile in ((wares, ()), (wares, ((2, full), (1, ())))):
                    check_refused(self, NoTree, lambda: lifted(pile, thing), (pile, thing))
                    check_refused(self, NoTree, lambda: often_kinds(pile, thing, 1), (pile, thing))

    def test_though_no_set_would_be_often(self):
        check_refused(self, NoTree, lambda: often_kinds(SHOP, (None,) * 3, 10 ** 60))

    def test_every_tuple_of_three(self):
        pile = (3, ((1, (0,)), (2, (1, 2))))
        trees = all_trees(3)
        for above in product((None, 0, 1, 2, 3), repeat=3):
            if above in trees:
                self.assertEqual(lifted(pile, above), lifted_by_hand(pile, above))
                self.assertEqual(often_kinds(pile, above, 1), often_kinds_by_hand(pile, above, 1))
            else:
                check_refused(self, NoTree, lambda: lifted(pile, above), above)
                check_refused(self, NoTree, lambda: often_kinds(pile, above, 1), above)


class Point2(unittest.TestCase):
    def test_asked_again_behind_another_one(self):
        for one, other in zip(SMALL, SMALL[1:] + SMALL[:1]):
            trees = some_trees(one[0])
            first = (lifted(one, trees[-1]), often_kinds(one, trees[-1], 2))
            for above in some_trees(other[0]):
                self.assertEqual(often_kinds(other, above, 1), often_kinds_by_hand(other, above, 1))
            lifted(one, trees[0])
            often_kinds(one, trees[-1], 1)
            check_refused(self, NoTree, lambda: lifted(one, list(trees[-1])))
            self.assertEqual((lifted(one, trees[-1]), often_kinds(one, trees[-1], 2)), first)

    def test_what_is_handed_in_stays(self):
        for pile in SMALL[::3]:
            for above in some_trees(pile[0]) + [list(some_trees(pile[0])[-1])]:
                was = repr((pile, above))
                if type(above) is list:
                    check_refused(self, NoTree, lambda: lifted(pile, above))
                    check_refused(self, NoTree, lambda: often_kinds(pile, above, 1))
                else:
                    lifted(pile, above)
                    often_kinds(pile, above, 1)
                    lean(above, tuple(range(pile[0])))
                    for ware in range(pile[0]):
                        standing_above(above, ware)
                self.assertEqual(repr((pile, above)), was)

    def test_the_arguments_names(self):
        pile = (2, ((2, (0,)), (1, (1,))))
        self.assertEqual(standing_above(above=(1, None), ware=0), (1,))
        self.assertEqual(lean(above=(1, None), some=(0, 1)), (0,))
        self.assertEqual(lifted(pile=pile, above=(1, None)), (2, ((2, (0, 1)), (1, (1,)))))
        self.assertEqual(often_kinds(pile=pile, above=(1, None), least=2), (((), 3), ((0,), 2), ((1,), 3)))

    def test_nothing_is_refused_somewhat_beyond(self):
        pile = (13, ((MOST + 1, (0, 12)), (2, tuple(range(13))), (1, (4,))) * 70)
        for above in some_trees(13):
            self.assertEqual(lifted(pile, above), lifted_by_hand(pile, above))


if __name__ == "__main__":
    unittest.main()
