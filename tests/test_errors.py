"""The interface of oftentogether.errors."""

import unittest

from oftentogether.errors import (NoRun, NoShare, NoStore, NoText, NotThere, NoTree,
                                  OftenError, TooGreat)

REFUSALS = (NoShare, NoStore, NoRun, NoTree, NoText, NotThere, TooGreat)


class Classes(unittest.TestCase):
    def test_any_refusal_stands_right_under_value_error(self):
        self.assertEqual(OftenError.__bases__, (ValueError,))

    def test_each_refusal_stands_right_under_often_error(self):
        for refusal in REFUSALS:
            self.assertEqual(refusal.__bases__, (OftenError,), refusal)

    def test_no_refusal_stands_under_another_one(self):
        for one in REFUSALS:
            for other in REFUSALS:
                self.assertEqual(issubclass(one, other), one is other, (one, other))

    def test_each_has_its_own_name(self):
        names = [refusal.__name__ for refusal in REFUSALS]
        self.assertEqual(names, ["NoShare", "NoStore", "NoRun", "NoTree", "NoText",
                                 "NotThere", "TooGreat"])


class Raised(unittest.TestCase):
    def test_plain_refusals_are_taken_as_value_errors(self):
        for refusal in (OftenError, NoShare, NoStore, NoRun, NoTree, NoText):
            for caught in (refusal, OftenError, ValueError):
                with self.assertRaises(caught):
                    raise refusal("words")
                with self.assertRaises(caught):
                    raise refusal()

    def test_not_there_has_the_field_there(self):
        for there in (0, 1, 7, 10 ** 12):
            with self.assertRaises(OftenError) as taken:
                raise NotThere(there)
            self.assertIsInstance(taken.exception, NotThere)
            self.assertEqual(taken.exception.there, there)
            self.assertIs(type(taken.exception.there), int)
            self.assertFalse(hasattr(taken.exception, "most"))

    def test_too_great_has_the_field_most(self):
        for most in (8, 12, 200):
            with self.assertRaises(OftenError) as taken:
                raise TooGreat(most)
            self.assertIsInstance(taken.exception, TooGreat)
            self.assertEqual(taken.exception.most, most)
            self.assertIs(type(taken.exception.most), int)
            self.assertFalse(hasattr(taken.exception, "there"))

    def test_each_error_keeps_a_field_of_its_own(self):
        one = TooGreat(8)
        other = TooGreat(200)
        self.assertEqual((one.most, other.most), (8, 200))
        first = NotThere(0)
        second = NotThere(3)
        self.assertEqual((first.there, second.there), (0, 3))

    def test_the_fields_are_the_arguments_names(self):
        self.assertEqual(NotThere(there=4).there, 4)
        self.assertEqual(TooGreat(most=12).most, 12)


if __name__ == "__main__":
    unittest.main()
