"""Points 29 and 30, and point 2 as far as it speaks of texts."""

import random
import unittest
from itertools import product

from oftentogether.errors import NoText, TooGreat
from oftentogether.piles import is_pile
from oftentogether.texts import listed, read, shown
from tests.by_hand import GREAT, MOST, SHOP, SMALL, Odd, check_refused, often_by_hand

NAMES = ("bread", "milk", "ale", "a", "z", "zzzzzzzz", "aa", "ab", "ba", "abcdefgh", "m", "milkmilk")
THIRTEEN = NAMES + ("tea",)

NO_LINES = (
    " ", ":", ": ", ": bread", "bread", "3", "3 ", "3 bread", "3:bread", "3:bread milk", "3 : bread",
    " 3: bread", "3:  bread", "3: ", "3:  ", "3: bread ", "3: bread  milk", "3: bread milk ", "3:\tbread",
    "3:\t", "\t3:", "3: bread\t", "3: bread\tmilk", "3: bread,milk", "3: bread, milk", "3;", "3; bread",
    "3::", "3:: bread", "3: :", "3: bread:", "3: bread: milk", "3: 3", "3: 3:", "3: 3: bread",
    "3: bread 4: milk", "0:", "0: bread", "00:", "03:", "03: bread", "0000000000001:", "+3:", "-3:", "-0:",
    "3.0:", "3.:", "1e3:", "1_000:", "0x3:", "three:", "3a:", "a3:", "3 3:", "1,000:", "\"3\":", "(3):",
    "1000000000001:", "1000000000001: bread", "9999999999999:", "10000000000000:", "2000000000000: a",
    "01000000000000:", "3: Bread", "3: BREAD", "3: breaD", "3: bread1", "3: 1bread", "3: br3ad",
    "3: br-ead", "3: br_ead", "3: _", "3: bread.", "3: br'ad", "3: abcdefghi", "3: bread abcdefghi",
    "3: aaaaaaaaaaaaaaaaaaaa", "3: ~", "3: {", "3: `", "3: @", "3: [", "3: /", "/:", "3/:",
    "3: bread bread", "3: bread milk bread", "3: a b c a", "3: a a a", "3: bread\r", "\r3: bread",
    "3: br\read", "3: bread\x00", "3: bread\x0b", "3: bread\x0c", "3:\xa0bread", "3: \xa0", "3: br\xe9ad",
    "3: \xe9", "3: \xdf", "3: \xaa", "3: \xb5", "\xb2:", "\xb3: bread", "1\xb2:", "\u0663:",
    "\u0661\u0662: bread", "\uff13:", "3\uff1a bread", "3: \uff41", "3: \u0430", "3: bread\u2028",
    "3: bread\u2029", "3: bread\x85", "3: bread\x1c", "\ufeff3: bread", "3: \u200bbread", "3: \U0001f35e",
    "3: \ud800", "3: bre\u0301ad")

NO_TEXTS = (None, True, False, 0, 3, -1, 1.0, b"", b"3: bread", bytearray(b"3:"), [], ["3: bread"], (),
            ("3: bread",), {}, {"3": "bread"}, set(), frozenset(), range(3), object(), Odd(), str, ("", ()),
            (("bread",), (1, ())))


def read_by_hand(lines):
    """What lines of (many, names) are to be read to."""
    names = []
    for many, line in lines:
        for name in line:
            if name not in names:
                names.append(name)
    runs = tuple((many, tuple(sorted(names.index(name) for name in line))) for many, line in lines)
    return (tuple(names), (len(names), runs))


def text_by_hand(lines):
    return "\n".join(str(many) + ":" + "".join(" " + name for name in line) for many, line in lines)


def comes_in_order(pile):
    """Whether each ware comes for the first time behind those below it."""
    found = []
    for many, basket in pile[1]:
        found += [ware for ware in basket if ware not in found]
    return found == list(range(pile[0]))


class Read(unittest.TestCase):
    def test_by_hand(self):
        self.assertEqual(read("3: bread milk\n12:\n1: ale milk"), (
            ("bread", "milk", "ale"), (3, ((3, (0, 1)), (12, ()), (1, (1, 2))))))
        self.assertEqual(read("1: milk bread\n2: bread milk\n7: bread"), (
            ("milk", "bread"), (2, ((1, (0, 1)), (2, (0, 1)), (7, (1,))))))

    def test_the_text_without_signs(self):
        self.assertEqual(read(""), ((), (0, ())))

    def test_lines_without_names(self):
        self.assertEqual(read("12:"), ((), (0, ((12, ()),))))
        self.assertEqual(read("12:\n1:\n1:"), ((), (0, ((12, ()), (1, ()), (1, ())))))
        self.assertEqual(read("1:\n2: a\n3:"), (("a",), (1, ((1, ()), (2, (0,)), (3, ())))))

    def test_the_names_in_any_order(self):
        source = random.Random(37)
        for step in range(300):
            known = source.sample(NAMES, source.randint(0, 12))
            lines = [(source.choice((1, 2, 9, 10, 99, 100, MOST - 1, MOST)),
                      source.sample(known, source.randint(0, len(known)))) for line in range(source.randint(1, 9))]
            told = read(text_by_hand(lines))
            self.assertEqual(told, read_by_hand(lines), lines)
            self.assertTrue(is_pile(told[1]))

    def test_how_many(self):
        for many in (1, 2, 9, 10, 11, 100, 101, 909, 123456789, 10 ** 11, MOST - 1, MOST):
            self.assertEqual(read(f"{many}: bread"), (("bread",), (1, ((many, (0,)),))))
            self.assertEqual(read(f"{many}:"), ((), (0, ((many, ()),))))

    def test_names_of_one_to_eight_letters(self):
        for size in range(1, 9):
            for letter in "amz":
                self.assertEqual(read(f"1: {letter * size}"), ((letter * size,), (1, ((1, (0,)),))))
        for letters in ("abcdefgh", "ijklmnop", "qrstuvwx", "yz"):
            self.assertEqual(read(f"1: {letters}"), ((letters,), (1, ((1, (0,)),))))

    def test_names_that_begin_alike_are_unlike(self):
        self.assertEqual(read("1: a aa aaa aaaaaaaa"), (("a", "aa", "aaa", "aaaaaaaa"), (4, ((1, (0, 1, 2, 3)),))))

    def test_twelve_names(self):
        full = tuple(range(12))
        self.assertEqual(read("5: " + " ".join(NAMES)), (NAMES, (12, ((5, full),))))
        self.assertEqual(read("5: " + " ".join(NAMES) + "\n1: " + " ".join(NAMES[::-1])),
                         (NAMES, (12, ((5, full), (1, full)))))
        self.assertEqual(read("\n".join(f"1: {name}" for name in NAMES)),
                         (NAMES, (12, tuple((1, (ware,)) for ware in full))))

    def test_two_hundred_lines(self):
        self.assertEqual(read("\n".join(["1: a"] * 200)), (("a",), (1, ((1, (0,)),) * 200)))
        self.assertEqual(read("\n".join([f"{MOST}: " + " ".join(NAMES)] * 200)),
                         (NAMES, (12, ((MOST, tuple(range(12))),) * 200)))

    def test_the_form(self):
        names, pile = told = read("3: bread milk\n12:\n1: ale milk")
        self.assertIs(type(told), tuple)
        self.assertIs(type(names), tuple)
        self.assertIs(type(pile), tuple)
        self.assertIs(type(pile[1]), tuple)
        for many, basket in pile[1]:
            self.assertIs(type(many), int)
            self.assertIs(type(basket), tuple)


class NoSuchText(unittest.TestCase):
    def test_things_that_are_no_texts(self):
        for thing in NO_TEXTS:
            check_refused(self, NoText, lambda: read(thing), thing)

    def test_a_line_that_is_none(self):
        for line in NO_LINES:
            for text in (line, line + "\n2: ale", "2: ale\n" + line, "2: ale\n" + line + "\n1:"):
                check_refused(self, NoText, lambda: read(text), text)

    def test_a_line_end_at_the_begin_or_the_end_or_twice(self):
        for text in ("\n", "\n\n", "\n3: bread", "3: bread\n", "\n3: bread\n", "3:\n", "\n3:", "3: bread\n\n2: milk",
                     "3: bread\n\n", "3: bread\n \n2: milk", "3: bread\n ", " \n3: bread"):
            check_refused(self, NoText, lambda: read(text), text)

    def test_other_line_ends(self):
        for end in ("\r", "\r\n", "\n\r", "\x0b", "\x0c", "\x85", "\u2028", "\u2029", "\t", ";", "\\n", " \n", "\n "):
            text = "3: bread" + end + "2: milk"
            check_refused(self, NoText, lambda: read(text), text)

    def test_every_sign_in_the_place_of_a_letter_and_of_a_figure(self):
        for number in list(range(256)) + [0x131, 0x17f, 0x3b1, 0x660, 0x966, 0xff10, 0xff41, 0x1d7ce, 0x1d44e]:
            sign = chr(number)
            text = f"3: b{sign}d"
            if sign in "abcdefghijklmnopqrstuvwxyz":
                self.assertEqual(read(text)[0], (f"b{sign}d",))
            elif sign == " ":
                self.assertEqual(read(text)[0], ("b", "d"))
            else:
                check_refused(self, NoText, lambda: read(text), text)
            if sign in "0123456789":
                self.assertEqual(read(f"3{sign}:")[1], (0, ((30 + int(sign), ()),)))
            else:
                check_refused(self, NoText, lambda: read(f"3{sign}:"), number)
            if sign in "123456789":
                self.assertEqual(read(f"{sign}3:")[1], (0, ((10 * int(sign) + 3, ()),)))
            else:
                check_refused(self, NoText, lambda: read(f"{sign}3:"), number)

    def test_all_short_texts_of_some_signs(self):
        texts = {"": ((), (0, ())), "1:": ((), (0, ((1, ()),))), "10:": ((), (0, ((10, ()),))),
                 "11:": ((), (0, ((11, ()),))), "1: a": (("a",), (1, ((1, (0,)),)))}
        for number in (100, 101, 110, 111):
            texts[f"{number}:"] = ((), (0, ((number, ()),)))
        for size in range(5):
            for signs in product("10a: \n", repeat=size):
                text = "".join(signs)
                if text in texts:
                    self.assertEqual(read(text), texts[text], text)
                else:
                    check_refused(self, NoText, lambda: read(text), text)

    def test_very_long_ones(self):
        for text in ("1" * 100000, "1" * 99999 + ":", "0" * 99999 + ":", "3: " + "a" * 99997, ":" * 100000,
                     "\n" * 100000, " " * 100000, "1:" + " a" * 49999, "1:\n" * 33333, "9" * 5000 + ": bread"):
            check_refused(self, NoText, lambda: read(text), text[:20])


class TooMany(unittest.TestCase):
    def most(self, text):
        error = check_refused(self, TooGreat, lambda: read(text), text[:200])
        self.assertIs(type(error.most), int)
        return error.most

    def test_thirteen_names(self):
        self.assertEqual(self.most("1: " + " ".join(THIRTEEN)), 12)
        self.assertEqual(self.most("\n".join(f"1: {name}" for name in THIRTEEN)), 12)
        self.assertEqual(self.most("1: " + " ".join(NAMES) + "\n1:\n1: tea"), 12)
        self.assertEqual(self.most("1: " + " ".join(NAMES) + "\n1: milk tea bread"), 12)
        letters = [one + other for one in "abcdefgh" for other in "abcdefgh"]
        self.assertEqual(self.most("1: " + " ".join(letters)), 12)

    def test_two_hundred_and_one_lines(self):
        self.assertEqual(self.most("\n".join(["1:"] * 201)), 200)
        self.assertEqual(self.most("\n".join(["1: a b"] * 201)), 200)
        self.assertEqual(self.most("\n".join(["1: " + " ".join(NAMES)] * 300)), 200)
        self.assertEqual(self.most("1:\n" * 33332 + "1:"), 200)

    def test_both(self):
        self.assertEqual(self.most("\n".join(["1: " + " ".join(THIRTEEN)] * 201)), 12)
        self.assertEqual(self.most("\n".join(["1:"] * 201) + "\n1: " + " ".join(THIRTEEN)), 12)
        self.assertEqual(self.most("\n".join(["1: a"] * 200 + [f"1: {name}" for name in THIRTEEN])), 12)

    def test_with_a_line_that_is_none(self):
        names = "1: " + " ".join(THIRTEEN)
        lines = "\n".join(["1: a"] * 201)
        both = "\n".join([names] * 201)
        for text in (names, lines, both):
            for line in ("", " ", "0:", "1", "1: A", "1: a a", "01:", "1000000000001:", "1: abcdefghi", "1: "):
                check_refused(self, NoText, lambda: read(text + "\n" + line), line)
                check_refused(self, NoText, lambda: read(line + "\n" + text), line)
        check_refused(self, NoText, lambda: read(names + " bread"))
        check_refused(self, NoText, lambda: read(names + " Tea"))


class Shown(unittest.TestCase):
    def test_by_hand(self):
        names = ("bread", "milk", "ale")
        self.assertEqual(shown(names, (3, ((3, (0, 1)), (12, ()), (1, (1, 2)), (MOST, (2,))))),
                         "3: bread milk\n12:\n1: milk ale\n1000000000000: ale")
        self.assertEqual(shown(names, (3, ((12, ()),))), "12:")
        self.assertEqual(shown(("z", "a"), (2, ((1, (0, 1)),))), "1: z a")

    def test_without_runs(self):
        self.assertEqual(shown((), (0, ())), "")
        self.assertEqual(shown(NAMES, (12, ())), "")

    def test_line_by_line(self):
        for pile in SMALL + GREAT:
            names = NAMES[:pile[0]]
            told = shown(names, pile)
            self.assertIs(type(told), str)
            self.assertEqual(told, text_by_hand(
                [(many, [names[ware] for ware in basket]) for many, basket in pile[1]]))

    def test_what_is_shown_is_read_again(self):
        tried = 0
        for pile in SMALL + GREAT:
            names = NAMES[:pile[0]]
            if comes_in_order(pile):
                tried += 1
                self.assertEqual(read(shown(names, pile)), (names, pile))
            self.assertEqual(read(shown(names, pile))[1][0], len({ware for run in pile[1] for ware in run[1]}))
        self.assertGreater(tried, 30)

    def test_any_pile_is_read_again_with_its_wares_in_another_order(self):
        for pile in SMALL + GREAT:
            names = NAMES[:pile[0]]
            known, again = read(shown(names, pile))
            self.assertEqual([(many, {known[ware] for ware in basket}) for many, basket in again[1]],
                             [(many, {names[ware] for ware in basket}) for many, basket in pile[1]])

    def test_what_is_read_is_shown_again(self):
        for text in ("", "12:", "3: bread milk\n12:\n1: milk ale", "1: b a\n1: a\n1: b"):
            self.assertEqual(shown(*read(text)), text)
        self.assertEqual(shown(*read("1: milk\n1: ale milk")), "1: milk\n1: milk ale")


class Listed(unittest.TestCase):
    def test_by_hand(self):
        names = ("bread", "milk", "ale")
        self.assertEqual(listed(names, (((), 10), ((0, 2), 5), ((1,), 0))), "10:\n5: bread ale\n0: milk")
        self.assertEqual(listed(names, (((1,), 1), ((0,), 2), ((1,), 1), ((1,), 3))),
                         "1: milk\n2: bread\n1: milk\n3: milk")

    def test_of_no_pairs(self):
        self.assertEqual(listed((), ()), "")
        self.assertEqual(listed(NAMES, ()), "")

    def test_numbers_that_no_run_has(self):
        for number in (0, MOST + 1, 10 ** 60):
            self.assertEqual(listed(("a",), (((0,), number),)), f"{number}: a")
            check_refused(self, NoText, lambda: read(listed(("a",), (((0,), number),))))

    def test_line_by_line(self):
        source = random.Random(38)
        for pile in SMALL + GREAT:
            names = NAMES[:pile[0]]
            pairs = [(basket, many) for many, basket in pile[1]]
            source.shuffle(pairs)
            told = listed(names, tuple(pairs))
            self.assertIs(type(told), str)
            self.assertEqual(told, text_by_hand([(number, [names[ware] for ware in some]) for some, number in pairs]))

    def test_likewise(self):
        for pile in SMALL:
            names = NAMES[:pile[0]]
            self.assertEqual(listed(names, tuple((basket, many) for many, basket in pile[1])), shown(names, pile))

    def test_of_what_is_often(self):
        names = ("bread", "milk", "ale", "tea")
        self.assertEqual(listed(names, often_by_hand(SHOP, 6)),
                         "22:\n13: bread\n10: milk\n6: tea\n6: bread milk\n6: milk tea")

    def test_more_than_two_hundred(self):
        self.assertEqual(listed(("a",), (((0,), 7),) * 300), "\n".join(["7: a"] * 300))


class Point2(unittest.TestCase):
    def test_asked_again_behind_another_one(self):
        texts = ("3: bread milk\n12:\n1: ale milk", "", "1: milk bread", "7: ale", "1: milk\n2: bread milk")
        for one in texts:
            first = read(one)
            for other in texts:
                self.assertEqual(read(other), read(other))
                check_refused(self, NoText, lambda: read(other + "\n"))
                self.assertEqual(read(one), first)
                self.assertEqual(shown(*first), shown(*read(one)))

    def test_what_is_handed_in_stays(self):
        for pile in SMALL[::4]:
            names = NAMES[:pile[0]]
            pairs = tuple((basket, many) for many, basket in pile[1])
            was = repr((names, pile, pairs))
            shown(names, pile)
            listed(names, pairs)
            self.assertEqual(repr((names, pile, pairs)), was)
        for thing in (["3: bread"], {"3": "bread"}, bytearray(b"3:")):
            was = repr(thing)
            check_refused(self, NoText, lambda: read(thing))
            self.assertEqual(repr(thing), was)

    def test_the_arguments_names(self):
        self.assertEqual(read(text="1: a"), (("a",), (1, ((1, (0,)),))))
        self.assertEqual(shown(names=("a",), pile=(1, ((1, (0,)),))), "1: a")
        self.assertEqual(listed(names=("a",), pairs=(((0,), 1),)), "1: a")

    def test_nothing_is_refused_somewhat_beyond(self):
        self.assertEqual(shown(("a",), (1, ((MOST + 1, (0,)),) * 210)), "\n".join([f"{MOST + 1}: a"] * 210))
        self.assertEqual(shown(THIRTEEN, (13, ((1, (12,)),))), "1: tea")
        self.assertEqual(listed(THIRTEEN, (((0, 12), 1),)), "1: bread tea")


if __name__ == "__main__":
    unittest.main()
