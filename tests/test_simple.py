"""Conditions made simple."""

import unittest

from maybetables.conds import AllOf, Cond, OneOf, Opposite, Same, Truth
from maybetables.errors import MaybeError, TooMany
from maybetables.fillings import bound, kinds
from maybetables.simple import simple
from tests.samples import HIGH, drawn_conds, layered, shape, small_conds

YES, NO = Truth(True), Truth(False)


def matters(cond, gap, gaps, values):
    """Whether two fillings, unlike at the gap alone, are told apart by the condition, by the words of 14."""
    told = {}
    for filling in kinds([name for name in gaps if name != gap] + [gap], values):
        rest = tuple(filling[name] for name in gaps if name != gap)
        told.setdefault(rest, set()).add(cond.truth(filling))
    return any(len(said) == 2 for said in told.values())


class SimpleTest(unittest.TestCase):
    def made(self, cond):
        """What is told keeps each promise of 14."""
        before = shape(cond)
        gaps, values = cond.gaps(), cond.standing()
        told = simple(cond)
        self.assertIsInstance(told, Cond)
        self.assertLessEqual(told.atoms(), cond.atoms())
        self.assertLessEqual(set(told.gaps()), set(gaps))
        self.assertLessEqual(set(told.standing()), set(values))
        said = set()
        for filling in kinds(gaps, values):
            self.assertIs(told.truth(filling), cond.truth(filling), (before, shape(told), filling))
            said.add(cond.truth(filling))
        self.assertEqual(isinstance(told, Truth), len(said) == 1, before)
        for gap in told.gaps():
            self.assertTrue(matters(told, gap, told.gaps(), told.standing()), (before, shape(told), gap))
        self.assertEqual(shape(cond), before)
        return told

    def is_truth(self, cond, said):
        told = self.made(cond)
        self.assertIsInstance(told, Truth)
        self.assertIs(told.said, said)

    def refused(self, cond):
        with self.assertRaises(TooMany) as caught:
            simple(cond)
        self.assertIsInstance(caught.exception, MaybeError)

    def test_what_can_not_fail(self):
        for cond in (YES, Same(3, 3), AllOf([]), Same("a", "a"), Opposite(Same(1, 2)), OneOf([Same("a", 1), YES]),
                     OneOf([Same("a", 1), Opposite(Same("a", 1))]), Opposite(AllOf([Same("a", 1), Same("a", 2)])),
                     OneOf([Opposite(Same("a", "b")), Opposite(Same("b", "c")), Same("a", "c")])):
            self.is_truth(cond, True)

    def test_what_can_not_hold(self):
        for cond in (NO, Same(3, 4), OneOf([]), Opposite(Same("a", "a")), Opposite(Same(2, 2)),
                     AllOf([Same("a", 1), NO]), AllOf([Same("a", 1), Same("a", 2)]),
                     AllOf([Same("a", "b"), Same("b", "c"), Opposite(Same("a", "c"))])):
            self.is_truth(cond, False)

    def test_what_is_simple(self):
        for cond in (Same("a", 1), Same("a", "b"), Opposite(Same("a", 1)), AllOf([Same("a", 1), Same("b", 2)]),
                     OneOf([Same("a", "b"), Opposite(Same("c", 0))])):
            self.assertEqual(self.made(cond).gaps(), cond.gaps())

    def test_a_gap_that_does_not_matter(self):
        same, either = Same("a", 1), OneOf([Same("b", 2), Opposite(Same("b", 2))])
        self.assertEqual(self.made(AllOf([same, either])).gaps(), ["a"])
        self.assertEqual(self.made(OneOf([same, Opposite(either)])).gaps(), ["a"])
        self.assertEqual(self.made(AllOf([same, Same("b", "b")])).gaps(), ["a"])
        self.assertEqual(self.made(OneOf([AllOf([same, Same("b", 2)]), AllOf([same, Opposite(Same("b", 2))])])).gaps(),
                         ["a"])
        self.assertEqual(self.made(AllOf([same, OneOf([same, Same("b", "c")])])).gaps(), ["a"])
        self.assertEqual(self.made(OneOf([Same("b", 1), AllOf([Same("b", 1), Same("a", "c")])])).gaps(), ["b"])

    def test_the_first_gap_does_not_matter(self):
        cond = AllOf([OneOf([Same("a", 3), Opposite(Same("a", 3))]), Same("b", "c")])
        self.assertEqual(self.made(cond).gaps(), ["b", "c"])
        cond = OneOf([AllOf([Same("a", "d"), Same("b", "c")]), AllOf([Opposite(Same("a", "d")), Same("b", "c")])])
        self.assertEqual(self.made(cond).gaps(), ["b", "c"])

    def test_a_gap_that_does_not_matter_beside_one_that_it_is_compared_with(self):
        same = Same("b", 1)
        for part in (Same("a", "b"), Same("b", "a"), Opposite(Same("a", "b")), Same("a", 1), Same(2, "a")):
            self.assertEqual(self.made(OneOf([same, AllOf([same, part])])).gaps(), ["b"])
            self.assertEqual(self.made(AllOf([same, OneOf([part, same])])).gaps(), ["b"])
            self.assertEqual(self.made(OneOf([AllOf([same, part]), AllOf([same, Opposite(part)])])).gaps(), ["b"])

    def test_a_gap_that_matters_at_one_kind_alone(self):
        cond = AllOf([Same("a", 1), Same("b", 2), Opposite(Same("c", "a")), Opposite(Same("c", "b"))])
        self.assertEqual(self.made(cond).gaps(), ["a", "b", "c"])
        cond = OneOf([Opposite(Same("a", "b")), Opposite(Same("a", 0)), Same("c", 0)])
        self.assertEqual(self.made(cond).gaps(), ["a", "b", "c"])
        cond = OneOf([Same("a", "b"), Same("a", "c"), Same("b", "c"), Same("a", 0), Same("b", 0), Same("c", 0)])
        self.assertEqual(self.made(cond).gaps(), ["a", "b", "c"])

    def test_a_gap_that_matters_by_fresh_values_alone(self):
        cond = AllOf([Opposite(Same("a", 0)), Opposite(Same("a", 1)), Opposite(Same("b", 0)), Same("a", "b")])
        self.assertEqual(self.made(cond).gaps(), ["a", "b"])
        cond = AllOf([Opposite(Same("a", 0)), Opposite(Same("a", "b"))])
        self.assertEqual(self.made(cond).gaps(), ["a", "b"])

    def test_small_conditions(self):
        for cond in small_conds(["a", "b", 1, 2]):
            self.made(cond)

    def test_larger_conditions(self):
        told = []
        for cond in drawn_conds(1000):
            told.append(len(cond.gaps()) > len(self.made(cond).gaps()) > 0)
        self.assertGreater(told.count(True), 20)

    def test_what_is_told_made_simple_again(self):
        for cond in drawn_conds(100, 8):
            self.made(self.made(cond))

    def test_twenty_one_within_another(self):
        for layers in range(19):
            told = self.made(OneOf([layered(Same("a", "b"), layers), Same("c", "c") if layers % 5 else NO]))
            self.assertEqual(isinstance(told, Truth), layers % 5 > 0)
            self.made(layered(AllOf([Same("a", HIGH), OneOf([Same("b", 1), Same("a", HIGH)])]), layers))

    def test_as_wide_as_may_be(self):
        self.assertEqual(bound(2, 30), 992)
        values = range(30)
        either = OneOf([Same("a", number) for number in values])
        self.assertEqual(self.made(AllOf([either, OneOf([either, Same("b", 3)])])).gaps(), ["a"])
        told = self.made(OneOf([AllOf([Same("a", number), Same("b", number)]) for number in values]))
        self.assertEqual(told.gaps(), ["a", "b"])
        self.made(AllOf([Opposite(Same(one, other)) for one in "abcdef" for other in "abcdef" if one < other]))
        self.made(OneOf([AllOf([Same("a", "b"), Same("c", "d")]), AllOf([Same("a", "b"), Same("e", "f")])]))

    def test_refused_above_a_bound_of_a_thousand(self):
        for gaps, values in [("ab", range(31)), ("abc", range(9)), ("abcd", range(4)), ("abcde", [1, 2]),
                             ("abcdef", [0]), ("abcdefg", [])]:
            self.assertGreater(bound(len(gaps), len(values)), 1000)
            cond = AllOf([Same(gap, gap) for gap in gaps] + [Same(value, value) for value in values])
            self.refused(cond)
            self.refused(OneOf([YES, cond]))
            self.refused(AllOf([NO, cond]))
            self.refused(OneOf([Opposite(cond), Same("a", "b")]))

    def test_without_gaps_there_are_never_too_many(self):
        self.is_truth(AllOf([Same(number, number) for number in range(100)]), True)
        self.is_truth(OneOf([Same(number, 100) for number in range(100)]), False)

    def test_many_places_without_an_atom(self):
        cond = YES
        for layer in range(17):
            cond = AllOf([cond, cond]) if layer % 2 else OneOf([cond, cond])
        told = simple(AllOf([cond, OneOf([Same("a", number) for number in range(30)])]))
        self.assertEqual(told.gaps(), ["a"])
        self.assertIs(told.truth({"a": 29}), True)
        self.assertIs(told.truth({"a": 30}), False)

    def test_arguments_by_name(self):
        self.assertIs(simple(cond=NO).said, False)


if __name__ == "__main__":
    unittest.main()
