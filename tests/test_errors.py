"""The refusals: their fields, and what stands under what."""

import unittest

from maybetables.errors import (
    MaybeError, NoColumn, NoFilling, NoName, NoText, Short, TooFew, TooMany, Twice, Unlike)

SORTS = [NoFilling, TooMany, Twice, Short, NoColumn, Unlike, TooFew, NoText, NoName]


def made():
    """One refusal of each sort, in the order of SORTS."""
    return [NoFilling("gap"), TooMany(), Twice("col"), Short(0), NoColumn("col"), Unlike(), TooFew(7),
            NoText(), NoName("tab")]


class ErrorsTest(unittest.TestCase):
    def test_any_refusal_is_a_maybe_error_and_a_value_error(self):
        self.assertTrue(issubclass(MaybeError, ValueError))
        for refusal in made():
            with self.subTest(refusal=refusal):
                self.assertIsInstance(refusal, MaybeError)
                self.assertIsInstance(refusal, ValueError)

    def test_none_is_another(self):
        for number, refusal in enumerate(made()):
            for place, sort in enumerate(SORTS):
                with self.subTest(refusal=refusal, sort=sort):
                    self.assertEqual(isinstance(refusal, sort), number == place)

    def test_any_refusal_is_not_a_certain_one(self):
        for sort in SORTS:
            self.assertFalse(issubclass(MaybeError, sort))

    def test_fields(self):
        self.assertEqual(NoFilling("ant").gap, "ant")
        self.assertEqual(Twice("bee").name, "bee")
        self.assertEqual(NoColumn("cat").name, "cat")
        self.assertEqual(NoName("dog").name, "dog")
        self.assertEqual(Short(12).row, 12)
        self.assertEqual(Short(0).row, 0)
        self.assertEqual(TooFew(5).wanted, 5)
        self.assertEqual(TooFew(0).wanted, 0)

    def test_fields_keep_their_kind(self):
        self.assertIsInstance(NoFilling("a").gap, str)
        self.assertIsInstance(Twice("a").name, str)
        self.assertIsInstance(NoColumn("a").name, str)
        self.assertIsInstance(NoName("a").name, str)
        self.assertIsInstance(Short(3).row, int)
        self.assertIsInstance(TooFew(3).wanted, int)

    def test_arguments_have_the_names_of_the_fields(self):
        self.assertEqual(NoFilling(gap="ant").gap, "ant")
        self.assertEqual(Twice(name="bee").name, "bee")
        self.assertEqual(NoColumn(name="cat").name, "cat")
        self.assertEqual(NoName(name="dog").name, "dog")
        self.assertEqual(Short(row=12).row, 12)
        self.assertEqual(TooFew(wanted=5).wanted, 5)

    def test_raised_and_taken_by_name_or_as_any_refusal(self):
        for refusal, sort in zip(made(), SORTS):
            for taken in (sort, MaybeError, ValueError):
                with self.subTest(sort=sort, taken=taken), self.assertRaises(taken) as caught:
                    raise refusal
                self.assertIs(caught.exception, refusal)

    def test_raised_fields_are_there_when_taken(self):
        with self.assertRaises(MaybeError) as caught:
            raise NoFilling("ant")
        self.assertEqual(caught.exception.gap, "ant")
        with self.assertRaises(MaybeError) as caught:
            raise TooFew(4)
        self.assertEqual(caught.exception.wanted, 4)

    def test_two_refusals_have_their_own_fields(self):
        first, second = NoFilling("a"), NoFilling("b")
        self.assertEqual((first.gap, second.gap), ("a", "b"))


if __name__ == "__main__":
    unittest.main()
