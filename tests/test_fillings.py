"""Kinds of fillings, when two fillings are of one kind, and the bound."""

import itertools
import unittest

from maybetables.conds import AllOf, OneOf, Opposite, Same
from maybetables.errors import MaybeError, TooMany
from maybetables.fillings import alike, bound, kinds
from tests.samples import HIGH


def fresh(values):
    """More fresh values than any test needs."""
    return [number for number in range(100) if number not in values]


def choices(gaps, values, chosen=()):
    """The kinds' values as tuples, gap by gap, straight by the words of the document."""
    if len(chosen) == len(gaps):
        return [chosen]
    ahead = sorted({value for value in chosen if value not in values})
    further = [number for number in fresh(values) if number not in ahead][0]
    told = []
    for value in sorted(values) + ahead + [further]:
        told.extend(choices(gaps, values, chosen + (value,)))
    return told


def shown(gaps, fillings):
    """Fillings as tuples of values, in the order of the gaps."""
    return [tuple(filling[gap] for gap in gaps) for filling in fillings]


class BoundTest(unittest.TestCase):
    def test_of_no_gaps(self):
        for values in (0, 1, 7, 60):
            self.assertEqual(bound(0, values), 1)

    def test_of_one_gap(self):
        self.assertEqual(bound(1, 0), 1)
        self.assertEqual(bound(1, 1), 2)
        self.assertEqual(bound(1, 999), 1000)

    def test_of_several(self):
        self.assertEqual(bound(2, 0), 2)
        self.assertEqual(bound(3, 0), 6)
        self.assertEqual(bound(6, 0), 720)
        self.assertEqual(bound(7, 0), 5040)
        self.assertEqual(bound(2, 1), 6)
        self.assertEqual(bound(2, 3), 20)
        self.assertEqual(bound(3, 2), 60)
        self.assertEqual(bound(4, 3), 840)
        self.assertEqual(bound(4, 4), 1680)
        self.assertEqual(bound(2, 30), 992)
        self.assertEqual(bound(2, 31), 1056)

    def test_of_many(self):
        product = 1
        for factor in range(31, 91):
            product *= factor
        self.assertEqual(bound(60, 30), product)

    def test_is_a_whole_number(self):
        self.assertIs(type(bound(0, 0)), int)
        self.assertIs(type(bound(3, 2)), int)

    def test_arguments_by_name(self):
        self.assertEqual(bound(gaps=3, values=1), 24)
        self.assertEqual(bound(values=3, gaps=1), 4)


class KindsTest(unittest.TestCase):
    def refused(self, gaps, values):
        with self.assertRaises(TooMany) as caught:
            kinds(gaps, values)
        self.assertIsInstance(caught.exception, MaybeError)

    def test_of_no_gaps(self):
        self.assertEqual(kinds([], []), [{}])
        self.assertEqual(kinds([], [1, 2]), [{}])
        self.assertEqual(kinds([], list(range(60))), [{}])

    def test_of_no_values(self):
        self.assertEqual(kinds(["a"], []), [{"a": 0}])
        self.assertEqual(kinds(["a", "b"], []), [{"a": 0, "b": 0}, {"a": 0, "b": 1}])
        self.assertEqual(shown("abc", kinds(["a", "b", "c"], [])),
                         [(0, 0, 0), (0, 0, 1), (0, 1, 0), (0, 1, 1), (0, 1, 2)])

    def test_of_one_gap(self):
        self.assertEqual(kinds(["a"], [7]), [{"a": 7}, {"a": 0}])
        self.assertEqual(kinds(["a"], [0]), [{"a": 0}, {"a": 1}])
        self.assertEqual(kinds(["a"], [3, 1, 2]), [{"a": 1}, {"a": 2}, {"a": 3}, {"a": 0}])
        self.assertEqual(kinds(["a"], [1, 0, 2]), [{"a": 0}, {"a": 1}, {"a": 2}, {"a": 3}])

    def test_of_two_gaps_and_a_value(self):
        self.assertEqual(shown("ab", kinds(["a", "b"], [5])), [(5, 5), (5, 0), (0, 5), (0, 0), (0, 1)])

    def test_gaps_in_the_order_of_the_list(self):
        self.assertEqual(kinds(["b", "a"], [5]),
                         [{"b": 5, "a": 5}, {"b": 5, "a": 0}, {"b": 0, "a": 5}, {"b": 0, "a": 0}, {"b": 0, "a": 1}])
        self.assertEqual(shown(["z", "b", "aa"], kinds(["z", "b", "aa"], [])),
                         [(0, 0, 0), (0, 0, 1), (0, 1, 0), (0, 1, 1), (0, 1, 2)])

    def test_values_rising(self):
        wanted = [(-2, -2), (-2, 5), (-2, 0), (5, -2), (5, 5), (5, 0), (0, -2), (0, 5), (0, 0), (0, 1)]
        self.assertEqual(shown("ab", kinds(["a", "b"], [5, -2])), wanted)
        self.assertEqual(shown("ab", kinds(["a", "b"], [-2, 5])), wanted)
        self.assertEqual(kinds(["a"], [10, 9, -1, -10]), [{"a": -10}, {"a": -1}, {"a": 9}, {"a": 10}, {"a": 0}])

    def test_fresh_values_pass_over_values(self):
        self.assertEqual(shown("ab", kinds(["a", "b"], [2, 0])),
                         [(0, 0), (0, 2), (0, 1), (2, 0), (2, 2), (2, 1), (1, 0), (1, 2), (1, 1), (1, 3)])
        self.assertEqual(shown("abc", kinds(["a", "b", "c"], [1]))[-6:],
                         [(0, 0, 0), (0, 0, 2), (0, 2, 1), (0, 2, 0), (0, 2, 2), (0, 2, 3)])
        self.assertEqual(shown("ab", kinds(["a", "b"], [0, 1, 3]))[-2:], [(2, 2), (2, 4)])

    def test_fresh_values_are_not_below_0(self):
        self.assertEqual(shown("ab", kinds(["a", "b"], [-1]))[-3:], [(0, -1), (0, 0), (0, 1)])

    def test_a_later_gap_gets_the_fresh_values_of_those_ahead(self):
        told = shown("abcd", kinds(["a", "b", "c", "d"], [9]))
        self.assertIn((9, 0, 9, 0), told)
        self.assertIn((9, 0, 9, 1), told)
        self.assertIn((0, 9, 1, 0), told)
        self.assertNotIn((9, 1, 0, 9), told)
        self.assertNotIn((0, 9, 9, 2), told)

    def test_values_of_sixty_figures(self):
        self.assertEqual(kinds(["a"], [HIGH, -HIGH]), [{"a": -HIGH}, {"a": HIGH}, {"a": 0}])
        self.assertEqual(len(kinds(["a", "b"], [HIGH, HIGH - 1])), 10)

    def test_just_as_the_words_say(self):
        lists = [[], [0], [4], [-3], [1, 0], [0, 2], [3, 1, 2], [-1, 7, 0], [2, -2, 1], [5, 4, 3, 2, 1, 0]]
        for number in range(5):
            gaps = ["d", "a", "cc", "b"][:number]
            for values in lists:
                if bound(len(gaps), len(values)) > 1000:
                    continue
                with self.subTest(gaps=gaps, values=values):
                    told = kinds(list(gaps), list(values))
                    self.assertEqual(shown(gaps, told), choices(gaps, values))
                    for filling in told:
                        self.assertEqual(sorted(filling), sorted(gaps))

    def test_each_filling_is_of_just_one_kind(self):
        for gaps, values in [(["a"], [0, 3]), (["b", "a"], [4, 1]), (["a", "b", "c"], []), (["c", "a", "b"], [2, -1]),
                             (["a", "b", "c", "d"], [0])]:
            told = kinds(gaps, values)
            for numbers in itertools.product(range(-1, 5), repeat=len(gaps)):
                filling = dict(zip(gaps, numbers))
                with self.subTest(values=values, filling=filling):
                    self.assertEqual(len([kind for kind in told if alike(gaps, values, kind, filling)]), 1)

    def test_a_condition_holds_at_a_filling_as_at_its_kind(self):
        cond = OneOf([AllOf([Same("a", "b"), Opposite(Same("c", 1))]), AllOf([Same("b", 3), Same("a", "c")])])
        gaps, values = cond.gaps(), cond.standing()
        told = kinds(gaps, values)
        for numbers in itertools.product(range(-1, 6), repeat=3):
            filling = dict(zip(gaps, numbers))
            kind = [kind for kind in told if alike(gaps, values, kind, filling)][0]
            self.assertEqual(cond.truth(filling), cond.truth(kind))

    def test_at_a_bound_of_a_thousand_or_less(self):
        names = ["g", "f", "e", "d", "c", "b", "a"]
        for gaps, values, many in [(1, 60, 61), (2, 30, 962), (3, 8, 757), (4, 3, 372), (5, 1, 203), (6, 0, 203)]:
            with self.subTest(gaps=gaps, values=values):
                self.assertLessEqual(bound(gaps, values), 1000)
                told = kinds(names[:gaps], list(range(values)))
                self.assertEqual(len(told), many)
                self.assertEqual(shown(names[:gaps], told), choices(names[:gaps], list(range(values))))

    def test_at_a_bound_of_just_a_thousand_and_one_more(self):
        # No shorter lists of values have these bounds.
        self.assertEqual(kinds(["a"], list(range(999))), [{"a": number} for number in range(1000)])
        self.refused(["a"], list(range(1000)))

    def test_above_a_bound_of_a_thousand(self):
        names = ["g", "f", "e", "d", "c", "b", "a"]
        for gaps, values in [(2, 31), (3, 9), (4, 4), (5, 2), (6, 1), (7, 0), (7, 30)]:
            with self.subTest(gaps=gaps, values=values):
                self.assertGreater(bound(gaps, values), 1000)
                self.refused(names[:gaps], list(range(values)))

    def test_the_bound_counts_where_the_kinds_are_fewer(self):
        # 877 kinds, but a bound of 5040.
        self.refused(["a", "b", "c", "d", "e", "f", "g"], [])
        self.refused(["a", "b", "c", "d", "e", "f"], [3])

    def test_sixty_gaps_are_refused_at_once(self):
        self.refused([chr(97 + number // 26) + chr(97 + number % 26) for number in range(60)], list(range(30)))

    def test_lists_handed_in_stay(self):
        gaps, values = ["b", "c", "a"], [5, -2, 0]
        kinds(gaps, values)
        self.assertEqual((gaps, values), (["b", "c", "a"], [5, -2, 0]))
        many, empty = ["g", "f", "e", "d", "c", "b", "a"], []
        self.refused(many, empty)
        self.assertEqual((many, empty), (["g", "f", "e", "d", "c", "b", "a"], []))

    def test_lists_changed_behind_change_nothing(self):
        gaps, values = ["b", "a"], [5]
        told = kinds(gaps, values)
        gaps.append("c")
        values[0] = 6
        self.assertEqual(shown("ba", told), [(5, 5), (5, 0), (0, 5), (0, 0), (0, 1)])
        self.assertEqual([len(filling) for filling in told], [2] * 5)

    def test_told_fillings_are_unlike_objects(self):
        told = kinds(["a", "b"], [1])
        again = kinds(["a", "b"], [1])
        self.assertIs(type(told), list)
        for filling in told:
            self.assertIs(type(filling), dict)
        self.assertEqual(len({id(filling) for filling in told + again}), 10)

    def test_told_fillings_changed_change_nothing(self):
        told = kinds(["a", "b"], [1])
        wanted = [dict(filling) for filling in told]
        told[0]["a"] = 7
        told[1].clear()
        self.assertEqual(told[2:], wanted[2:])
        self.assertEqual(kinds(["a", "b"], [1]), wanted)
        told.clear()
        self.assertEqual(kinds(["a", "b"], [1]), wanted)
        none = kinds([], [])
        none[0]["a"] = 1
        none.append({})
        self.assertEqual(kinds([], []), [{}])

    def test_arguments_by_name(self):
        self.assertEqual(kinds(gaps=["a"], values=[2]), [{"a": 2}, {"a": 0}])


class AlikeTest(unittest.TestCase):
    def tells(self, gaps, values, one, other, wanted):
        handed = [list(gaps), list(values), dict(one), dict(other)]
        self.assertIs(alike(gaps, values, one, other), wanted)
        self.assertIs(alike(gaps, values, other, one), wanted)
        self.assertEqual([gaps, values, one, other], handed)

    def test_by_values(self):
        self.tells(["a"], [1, 2], {"a": 1}, {"a": 1}, True)
        self.tells(["a"], [1, 2], {"a": 1}, {"a": 2}, False)
        self.tells(["a"], [1, 2], {"a": 1}, {"a": 3}, False)
        self.tells(["a"], [2, 1], {"a": 3}, {"a": 4}, True)
        self.tells(["a"], [1], {"a": 1}, {"a": -1}, False)
        self.tells(["a"], [0], {"a": 0}, {"a": 5}, False)
        self.tells(["a"], [], {"a": 0}, {"a": 5}, True)
        self.tells(["a", "b"], [1, 2], {"a": 1, "b": 2}, {"a": 2, "b": 1}, False)
        self.tells(["a", "b"], [1], {"a": 1, "b": 2}, {"a": 2, "b": 1}, False)

    def test_by_values_at_each_gap(self):
        gaps = ["a", "b", "c"]
        one = {"a": 7, "b": 8, "c": 9}
        for gap in gaps:
            other = dict(one)
            other[gap] = 1
            with self.subTest(gap=gap):
                self.tells(gaps, [1], one, other, False)
                self.tells(gaps, [2], one, other, True)

    def test_by_values_of_sixty_figures(self):
        self.tells(["a"], [HIGH], {"a": HIGH}, {"a": HIGH - 1}, False)
        self.tells(["a"], [HIGH], {"a": int(str(HIGH))}, {"a": HIGH}, True)
        self.tells(["a"], [-HIGH], {"a": HIGH}, {"a": HIGH - 1}, True)

    def test_by_pairs_of_gaps(self):
        self.tells(["a", "b"], [], {"a": 3, "b": 3}, {"a": 4, "b": 4}, True)
        self.tells(["a", "b"], [], {"a": 3, "b": 3}, {"a": 4, "b": 5}, False)
        self.tells(["a", "b"], [], {"a": 3, "b": 4}, {"a": 5, "b": 3}, True)
        self.tells(["a", "b"], [], {"a": 3, "b": 4}, {"a": 4, "b": 3}, True)
        self.tells(["a", "b"], [1], {"a": 3, "b": 3}, {"a": 3, "b": 4}, False)
        self.tells(["a", "b"], [1], {"a": 1, "b": 3}, {"a": 1, "b": 4}, True)

    def test_by_each_pair_of_gaps(self):
        gaps = ["c", "a", "b"]
        one = {"a": 7, "b": 8, "c": 9}
        for first, second in itertools.permutations(gaps, 2):
            other = dict(one)
            other[first] = other[second]
            with self.subTest(first=first, second=second):
                self.tells(gaps, [1], one, other, False)

    def test_gaps_that_are_not_asked_for(self):
        self.tells(["a"], [1], {"a": 3, "b": 1}, {"a": 4, "b": 2}, True)
        self.tells(["a"], [1], {"a": 3, "b": 3}, {"a": 4, "b": 5}, True)
        self.tells(["a"], [1], {"a": 3, "b": 3}, {"a": 4, "c": 1}, True)
        self.tells(["a"], [1], {"a": 1, "b": 3}, {"a": 2, "b": 3}, False)
        self.tells(["b", "c"], [], {"a": 1, "b": 3, "c": 3}, {"b": 4, "c": 5, "z": 3}, False)
        self.tells(["b", "c"], [], {"a": 1, "b": 3, "c": 2}, {"b": 4, "c": 5}, True)

    def test_of_no_gaps(self):
        self.tells([], [], {}, {}, True)
        self.tells([], [1, 2], {"a": 1}, {"a": 2}, True)
        self.tells([], [1, 2], {"a": 1}, {}, True)

    def test_a_filling_and_itself(self):
        filling = {"a": 1, "b": 5, "c": 5}
        self.assertIs(alike(["a", "b", "c"], [1], filling, filling), True)

    def test_kinds_are_unlike_each_other(self):
        for gaps, values in [(["a", "b"], [5, -2]), (["a", "b", "c"], [1]), (["b", "a", "d", "c"], [])]:
            told = kinds(gaps, values)
            for number, one in enumerate(told):
                for place, other in enumerate(told):
                    self.assertIs(alike(gaps, values, one, other), number == place)

    def test_just_as_the_words_say(self):
        gaps, values = ["a", "b"], [0, 1]
        fillings = [{"a": a, "b": b} for a in range(4) for b in range(4)]
        for one in fillings:
            for other in fillings:
                wanted = (one["a"] == one["b"]) == (other["a"] == other["b"])
                for gap in gaps:
                    for value in values:
                        wanted = wanted and (one[gap] == value) == (other[gap] == value)
                with self.subTest(one=one, other=other):
                    self.assertIs(alike(gaps, values, one, other), wanted)

    def test_arguments_by_name(self):
        self.assertIs(alike(gaps=["a"], values=[2], one={"a": 1}, other={"a": 2}), False)


if __name__ == "__main__":
    unittest.main()
