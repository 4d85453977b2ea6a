"""Point 3: what the program tells of one pile, asked in all its ways, agrees; and each refusal is of its class."""

import random
import unittest
from fractions import Fraction

from oftentogether.borders import greatest, greatest_without, seldom, smallest_beyond
from oftentogether.branching import Branching
from oftentogether.closures import closed, closure, count_by
from oftentogether.errors import NoRun, NoShare, NoStore, NoText, NotThere, NoTree, TooGreat
from oftentogether.growing import Growing
from oftentogether.kinds import lean, lifted, often_kinds, standing_above
from oftentogether.meeting import Meeting
from oftentogether.piles import columns, count, is_pile, tree
from oftentogether.rows import count_rows, ends, often_rows, places
from oftentogether.sayings import sayings
from oftentogether.sets import joined, lies_below, met
from oftentogether.shares import reaches, share
from oftentogether.stores import Store
from oftentogether.texts import listed, read, shown
from oftentogether.ways import Way
from tests.by_hand import GREAT, MOST, SHOP, SMALL, check_refused, filled, sets_in_order

NAMES = ("bread", "milk", "ale", "tea", "salt", "oil", "egg", "rice", "beans", "corn", "soap", "wax")
PILES = SMALL + GREAT[::6]


def some_leasts(pile):
    counts = sorted({count(pile, some) for some in sets_in_order(pile[0])})
    near = {1, 2, counts[len(counts) // 2], counts[-1], counts[-1] + 1}
    return sorted(least for least in near if least >= 1)


def sets_of(pairs):
    return tuple(some for some, number in pairs)


def rows_of(pile):
    """Each basket as a row of one moment."""
    return tuple((many, ((place, basket),)) for place, (many, basket) in enumerate(pile[1]))


def walked(node, ahead=()):
    """Each node of a tree with the wares that lead to it."""
    found = [(ahead, node[0])]
    for ware, lower in node[1]:
        found += walked(lower, ahead + (ware,))
    return found


CASES = [(pile, least, Way().often(pile, least)) for pile in PILES for least in some_leasts(pile)]


class Agree(unittest.TestCase):
    def test_all_four_ways(self):
        for pile, least, often in CASES:
            for way in (Growing, Meeting, Branching):
                self.assertEqual(way().often(pile, least), often, (pile, least))
            told = dict(often)
            for some in sets_in_order(pile[0]):
                number = count(pile, some)
                self.assertEqual(told.get(some), number if number >= least else None)

    def test_columns_and_tree_with_counts(self):
        for pile in PILES:
            runs = pile[1]
            for ware, column in enumerate(columns(pile)):
                self.assertEqual(sum(many for place, (many, basket) in enumerate(runs) if column >> place & 1),
                                 count(pile, (ware,)))
                at_end = [number for wares, number in walked(tree(pile)) if wares[-1:] == (ware,)]
                self.assertEqual(sum(at_end), count(pile, (ware,)))
            self.assertEqual(tree(pile)[0], count(pile, ()))

    def test_what_growing_counts_with_the_borders(self):
        for pile, least, often in CASES:
            told = Growing().counted(pile, least)
            self.assertEqual(sorted(told), sorted(often + seldom(pile, least)))

    def test_each_set_lies_above_a_seldom_or_below_an_often_one_never_both(self):
        for pile, least, often in CASES:
            above = sets_of(greatest(pile, least))
            below = sets_of(seldom(pile, least))
            known = dict(often)
            for some in sets_in_order(pile[0])[::1 if pile[0] < 7 else 13]:
                is_often = any(lies_below(some, other) for other in above)
                self.assertEqual(is_often, some in known)
                self.assertNotEqual(is_often, any(lies_below(other, some) for other in below))

    def test_either_border_tells_the_other(self):
        for pile, least, often in CASES:
            above = sets_of(greatest(pile, least))
            below = sets_of(seldom(pile, least))
            self.assertEqual(smallest_beyond(pile[0], above), below, (pile, least))
            self.assertEqual(greatest_without(pile[0], below), above, (pile, least))
            self.assertEqual(smallest_beyond(pile[0], sets_of(often)), below)

    def test_the_closed_ones_tell_every_count(self):
        for pile, least, often in CASES:
            pairs = closed(pile, least)
            known = dict(often)
            for some in sets_in_order(pile[0])[::1 if pile[0] < 7 else 13]:
                self.assertEqual(count_by(pairs, some), known.get(some), (pile, least, some))
            for some, number in pairs:
                self.assertEqual(known[some], number)
                self.assertEqual(closure(pile, some), some)

    def test_the_closed_ones_are_the_meets_of_the_baskets_that_have_them(self):
        for pile, least, often in CASES:
            told = dict(closed(pile, least))
            for some, number in often[::1 if pile[0] < 7 else 13]:
                meet = tuple(range(pile[0]))
                for many, basket in pile[1]:
                    if lies_below(some, basket):
                        meet = met(meet, basket)
                self.assertEqual(some in told, meet == some, (pile, least, some))
                self.assertEqual(told[meet], number)

    def test_the_greatest_are_closed(self):
        for pile, least, often in CASES:
            self.assertLessEqual(set(greatest(pile, least)), set(closed(pile, least)))

    def test_sayings_with_what_is_often(self):
        for pile in [pile for pile in PILES if pile[0] <= 5]:
            for least in some_leasts(pile):
                known = dict(Way().often(pile, least))
                for bound in ((0, 1), (1, 2), (1, 1)):
                    told = {saying[:2]: saying for saying in sayings(pile, least, bound)}
                    self.assertEqual(list(told), self.two_sets(pile, known, bound), (pile, least, bound))
                    for (whom, what), saying in told.items():
                        number = known[joined(whom, what)]
                        self.assertEqual(saying[2], number)
                        self.assertEqual(saying[3], share(number, count(pile, whom)))
                        self.assertTrue(reaches(saying[3], bound))
                        self.assertEqual(Fraction(*saying[4]), Fraction(number * count(pile, ()), count(
                            pile, whom) * count(pile, what)))

    def two_sets(self, pile, known, bound):
        found = []
        for whom in sets_in_order(pile[0]):
            for what in sets_in_order(pile[0])[1:]:
                both = joined(whom, what)
                if met(whom, what) == () and both in known:
                    if Fraction(known[both], count(pile, whom)) >= Fraction(*bound):
                        found.append((whom, what))
        return found

    def test_sayings_that_are_sure_are_what_closures_tell(self):
        for pile in [pile for pile in PILES if pile[0] <= 5]:
            for whom, what, number, worth, chance, follows in sayings(pile, 1, (1, 1)):
                self.assertEqual(worth, (1, 1))
                self.assertTrue(lies_below(what, closure(pile, whom)))

    def test_the_store(self):
        for pile, least, often in CASES:
            store = filled(pile[0], pile[1])
            self.assertEqual(store.pile(), pile)
            self.check_store(store, pile, least)

    def check_store(self, store, pile, least):
        self.assertEqual(store.often(least), Way().often(pile, least))
        self.assertEqual(store.closed(least), closed(pile, least))
        self.assertEqual(store.greatest(least), greatest(pile, least))
        self.assertEqual(store.seldom(least), seldom(pile, least))
        for some in sets_in_order(pile[0])[::1 if pile[0] < 5 else 29]:
            self.assertEqual(store.count(some), count(pile, some))

    def test_the_store_whatever_was_put_in_and_taken_out(self):
        source = random.Random(3)
        for pile in SMALL:
            store = filled(pile[0], pile[1])
            sets = sets_in_order(pile[0])
            extra = [(source.randint(1, 9), source.choice(sets)) for step in range(5)]
            if len(pile[1]) + len(extra) <= 200:
                for many, basket in extra:
                    store.put(many, basket)
                for many, basket in reversed(extra):
                    store.take(many, basket)
            told = store.pile()
            self.assertTrue(is_pile(told))
            for some in sets:
                self.assertEqual(count(told, some), count(pile, some))
            self.check_store(store, told, 2)
            self.assertEqual(store.often(2), Way().often(pile, 2))

    def test_the_store_with_a_window(self):
        for pile in SMALL:
            for window in (1, 4, MOST):
                store = Store(pile[0], window)
                gone = []
                for many, basket in pile[1]:
                    gone.extend(store.put(many, basket))
                self.assertLessEqual(store.count(()), window)
                self.assertEqual(store.count(()), min(window, count(pile, ())))
                for some in sets_in_order(pile[0])[:8]:
                    went = sum(many for many, basket in gone if lies_below(some, basket))
                    self.assertEqual(store.count(some) + went, count(pile, some))
                self.check_store(store, store.pile(), 1)

    def test_the_lifted_pile_without_kinds(self):
        for pile, least, often in CASES:
            none = (None,) * pile[0]
            self.assertEqual(lifted(pile, none), pile)
            self.assertEqual(often_kinds(pile, none, least), often)

    def test_often_with_kinds_and_the_lifted_pile(self):
        for pile, least, often in CASES:
            chain = tuple(range(1, pile[0])) + (None,) * min(1, pile[0])
            raised = lifted(pile, chain)
            told = often_kinds(pile, chain, least)
            pairs = Meeting().often(raised, least)
            self.assertEqual(told, tuple(pair for pair in pairs if lean(chain, pair[0]) == pair[0]))
            known = dict(told)
            for some, number in pairs[::1 if pile[0] < 7 else 13]:
                self.assertEqual(known[lean(chain, some)], number)
            for ware in range(pile[0]):
                self.assertTrue(all(count(raised, (higher,)) >= count(raised, (ware,))
                                    for higher in standing_above(chain, ware)))

    def test_rows_of_one_moment(self):
        for pile, least, often in CASES:
            rows = rows_of(pile)
            singles = tuple(pair for pair in often if len(pair[0]) == 1)
            for gap in (None, 0, 5):
                for long in (1, 2, 3):
                    self.assertEqual(often_rows(rows, pile[0], least, long, gap), singles)
        for pile in SMALL:
            rows = rows_of(pile)
            for some in sets_in_order(pile[0])[1::3]:
                self.assertEqual(count_rows(rows, (some,)), count(pile, some))
                self.assertEqual(count_rows(rows, (some, some)), 0)

    def test_rows_agree_with_each_other(self):
        source = random.Random(4)
        for pile in [pile for pile in SMALL if 0 < pile[0] <= 4]:
            row = tuple((3 * place, basket) for place, (many, basket) in enumerate(pile[1][:60]))
            for gap in (None, 3, 4, 9):
                pattern = tuple(source.choice(sets_in_order(pile[0])[1:]) for step in range(source.randint(1, 3)))
                last = ends(row, pattern, gap)[-1]
                told = places(row, pattern, gap)
                self.assertEqual(told is None, last == ())
                self.assertEqual(count_rows(((5, row),), pattern, gap), 5 if last else 0)
                if told is not None:
                    self.assertIn(told[-1], last)

    def test_texts(self):
        for pile in SMALL:
            names = NAMES[:pile[0]]
            known, again = read(shown(names, pile))
            self.assertTrue(is_pile(again))
            for some in sets_in_order(again[0]):
                like = tuple(sorted(names.index(known[ware]) for ware in some))
                self.assertEqual(count(again, some), count(pile, like))

    def test_a_list_of_closed_ones_is_a_pile_of_them(self):
        pairs = closed(SHOP, 1)
        self.assertEqual(listed(NAMES[:4], pairs),
                         "22:\n13: bread\n10: milk\n6: bread milk\n6: milk tea\n2: bread milk tea")
        known, pile = read(listed(NAMES[:4], pairs))
        self.assertEqual(known, ("bread", "milk", "tea"))
        self.assertEqual([many for many, basket in pile[1]], [number for some, number in pairs])


class Refusals(unittest.TestCase):
    def test_each_is_of_its_class(self):
        store = filled(2, ((2, (0,)),))
        full = filled(1, ((1, ()),) * 200)
        asked = (
            (NoShare, lambda: share(1, 0)),
            (NoShare, lambda: sayings(SHOP, 1, (1, 0))),
            (NoShare, lambda: sayings((9, ()), 1, 1)),
            (NoStore, lambda: Store(13)),
            (NoStore, lambda: Store(2, 0)),
            (NoRun, lambda: store.put(0, ())),
            (NoRun, lambda: store.take(1, (2,))),
            (NoRun, lambda: full.put(1, (1,))),
            (NoTree, lambda: lifted(SHOP, (None,))),
            (NoTree, lambda: often_kinds(SHOP, (0, None, None, None), 1)),
            (NoText, lambda: read("0:")),
            (NoText, lambda: read(None)))
        for refusal, call in asked:
            error = check_refused(self, refusal, call, refusal)
            self.assertFalse(hasattr(error, "most"))
            self.assertFalse(hasattr(error, "there"))

    def test_the_fields(self):
        store = filled(2, ((2, (0,)), (3, (0,))))
        full = filled(1, ((1, ()),) * 200)
        self.assertEqual(check_refused(self, NotThere, lambda: store.take(6, (0,))).there, 5)
        self.assertEqual(check_refused(self, NotThere, lambda: store.take(1, ())).there, 0)
        self.assertEqual(check_refused(self, TooGreat, lambda: full.put(1, ())).most, 200)
        self.assertEqual(check_refused(self, TooGreat, lambda: sayings((9, ()), 1)).most, 8)
        self.assertEqual(check_refused(self, TooGreat, lambda: read("1: a b c d e f g h i j k l m")).most, 12)
        self.assertEqual(check_refused(self, TooGreat, lambda: read("\n".join(["1:"] * 201))).most, 200)


class Point2(unittest.TestCase):
    def answers(self, pile):
        none = (None,) * pile[0]
        told = [way().often(pile, 2) for way in (Way, Growing, Meeting, Branching)]
        told += [closed(pile, 2), greatest(pile, 2), seldom(pile, 2), closure(pile, ()), tree(pile), columns(pile)]
        told += [lifted(pile, none), often_kinds(pile, none, 2), often_rows(rows_of(pile), pile[0], 2)]
        told += [filled(pile[0], pile[1]).often(2), shown(NAMES, pile), read(shown(NAMES, pile))]
        return told + ([sayings(pile, 2)] if pile[0] <= 4 else [])

    def check_nothing_to_change(self, told):
        self.assertIn(type(told), (tuple, str, int, bool, type(None)))
        if type(told) is tuple:
            for part in told:
                self.check_nothing_to_change(part)

    def test_asked_again_behind_all_others(self):
        first = [self.answers(pile) for pile in SMALL]
        again = [self.answers(pile) for pile in reversed(SMALL)]
        self.assertEqual(again[::-1], first)

    def test_what_is_told_are_tuples_texts_numbers_truths_and_none(self):
        for pile in SMALL[::3]:
            for told in self.answers(pile):
                self.check_nothing_to_change(told)
        store = filled(4, SHOP[1], 12)
        row = ((0, (0,)), (2, (1,)))
        for told in (store.put(3, (0,)), store.take(1, (0,)), store.pile(), store.count(()), store.closed(1),
                     store.greatest(2), store.seldom(2), ends(row, ((0,), (1,))), places(row, ((0,), (1,))),
                     places(row, ((2,),)), count_rows(((2, row),), ((0,),)), standing_above((1, None), 0),
                     lean((1, None), (0, 1)), listed(NAMES, (((0,), 1),))):
            self.check_nothing_to_change(told)

    def test_what_is_handed_in_stays(self):
        for pile in SMALL:
            was = repr(pile)
            self.answers(pile)
            self.assertEqual(repr(pile), was)


if __name__ == "__main__":
    unittest.main()
