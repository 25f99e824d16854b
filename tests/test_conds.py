"""Conditions: their fields, where they hold, and what stands in them."""

import copy
import itertools
import unittest

from maybetables.conds import AllOf, Cond, OneOf, Opposite, Same, Truth
from maybetables.errors import MaybeError, NoFilling
from tests.samples import HIGH, layered, shape

YES, NO = Truth(True), Truth(False)
LOW = -HIGH


class InterfaceTest(unittest.TestCase):
    def each_sort(self):
        return [YES, Same("a", 1), AllOf([YES]), OneOf([YES]), Opposite(YES)]

    def test_each_is_a_cond_and_none_is_another(self):
        sorts = [Truth, Same, AllOf, OneOf, Opposite]
        for number, cond in enumerate(self.each_sort()):
            self.assertIsInstance(cond, Cond)
            for place, sort in enumerate(sorts):
                with self.subTest(cond=cond, sort=sort):
                    self.assertEqual(isinstance(cond, sort), number == place)

    def test_said(self):
        self.assertIs(Truth(True).said, True)
        self.assertIs(Truth(False).said, False)

    def test_cells(self):
        for one, other in [("a", "b"), ("b", "a"), ("a", 3), (3, "a"), (4, 3), (3, 4), ("a", "a"), (0, 0),
                           (HIGH, LOW)]:
            cond = Same(one, other)
            with self.subTest(one=one, other=other):
                self.assertEqual((cond.one, cond.other), (one, other))

    def test_part(self):
        part = Same("a", 1)
        self.assertIs(Opposite(part).part, part)
        twice = Opposite(Opposite(part))
        self.assertIsInstance(twice.part, Opposite)
        self.assertIs(twice.part.part, part)

    def test_parts_are_a_tuple_as_handed_in(self):
        for sort in (AllOf, OneOf):
            first, second = Same("b", 1), Same("a", 2)
            for parts in ([], [first], [first, second], [second, first], [first, first]):
                cond = sort(parts)
                with self.subTest(sort=sort, parts=len(parts)):
                    self.assertIs(type(cond.parts), tuple)
                    self.assertEqual(len(cond.parts), len(parts))
                    for told, part in zip(cond.parts, parts):
                        self.assertIs(told, part)

    def test_arguments_by_name(self):
        part = Same(one="a", other=2)
        self.assertEqual((part.one, part.other), ("a", 2))
        self.assertIs(Truth(said=False).said, False)
        self.assertEqual(AllOf(parts=[part]).parts, (part,))
        self.assertEqual(OneOf(parts=[part]).parts, (part,))
        self.assertIs(Opposite(part=part).part, part)
        self.assertIs(part.truth(filling={"a": 2}), True)
        self.assertIs(part.put(cells={"a": 3}).truth({}), False)

    def test_parts_changed_behind_change_nothing(self):
        for sort in (AllOf, OneOf):
            parts = [Same("a", 1), Same("b", 2)]
            kept = tuple(parts)
            cond = sort(parts)
            parts[0] = Truth(sort is OneOf)
            parts.append(Same("c", 3))
            parts.reverse()
            with self.subTest(sort=sort):
                self.assertEqual(cond.parts, kept)
                self.assertEqual(cond.gaps(), ["a", "b"])
                self.assertEqual(cond.standing(), [1, 2])
                self.assertEqual(cond.atoms(), 2)
                self.assertIs(cond.truth({"a": 1, "b": 2}), True)
                self.assertIs(cond.truth({"a": 0, "b": 0}), False)
                self.assertEqual(cond.put({"b": "d"}).gaps(), ["a", "d"])

    def test_parts_cleared_behind_change_nothing(self):
        parts = [Same("a", 1)]
        both, either = AllOf(parts), OneOf(parts)
        parts.clear()
        self.assertIs(both.truth({"a": 2}), False)
        self.assertIs(either.truth({"a": 1}), True)

    def test_parts_handed_in_stay(self):
        first, second = Same("b", 1), Same("a", 2)
        for sort in (AllOf, OneOf):
            parts = [first, second, first]
            cond = sort(parts)
            cond.gaps()
            cond.truth({"a": 2, "b": 1})
            cond.put({"a": 1})
            self.assertEqual(parts, [first, second, first])


class TruthTest(unittest.TestCase):
    def holds(self, cond, filling):
        self.assertIs(cond.truth(filling), True)
        self.assertIs(Opposite(cond).truth(filling), False)

    def fails(self, cond, filling):
        self.assertIs(cond.truth(filling), False)
        self.assertIs(Opposite(cond).truth(filling), True)

    def test_truth(self):
        for filling in ({}, {"a": 1}, {"a": 0, "b": -1}):
            self.holds(Truth(True), filling)
            self.fails(Truth(False), filling)

    def test_same_of_two_values(self):
        self.holds(Same(3, 3), {})
        self.holds(Same(0, 0), {"a": 1})
        self.fails(Same(3, 4), {})
        self.fails(Same(0, 1), {"a": 1})
        self.fails(Same(3, -3), {})

    def test_same_of_a_value_and_a_gap(self):
        for cond in (Same("a", 3), Same(3, "a")):
            self.holds(cond, {"a": 3})
            self.fails(cond, {"a": 4})
            self.fails(cond, {"a": -3})
            self.fails(cond, {"a": 0, "b": 3})
        for cond in (Same("a", 0), Same(0, "a")):
            self.holds(cond, {"a": 0})
            self.fails(cond, {"a": 1})

    def test_same_of_two_gaps(self):
        for cond in (Same("a", "b"), Same("b", "a")):
            self.holds(cond, {"a": 3, "b": 3})
            self.holds(cond, {"a": 0, "b": 0, "c": 1})
            self.fails(cond, {"a": 3, "b": 4})
            self.fails(cond, {"a": 4, "b": 3})
            self.fails(cond, {"a": 1, "b": -1})

    def test_same_of_a_cell_and_itself(self):
        for value in (-7, 0, 7, HIGH):
            self.holds(Same("a", "a"), {"a": value})
            self.holds(Same(value, value), {})

    def test_values_below_0(self):
        self.holds(Same("a", -1), {"a": -1})
        self.fails(Same("a", -1), {"a": 1})
        self.fails(Same("a", -1), {"a": -2})
        self.holds(Same("a", "b"), {"a": -5, "b": -5})
        self.fails(Same("a", "b"), {"a": -5, "b": 5})

    def test_values_of_sixty_figures(self):
        self.assertEqual(len(str(HIGH)), 60)
        for value in (HIGH, LOW, 10 ** 59, -(10 ** 59)):
            self.holds(Same("a", value), {"a": int(str(value))})
            self.holds(Same("a", "b"), {"a": value, "b": int(str(value))})
            self.holds(Same(value, int(str(value))), {})
            self.fails(Same("a", value), {"a": value - 1})
            self.fails(Same("a", "b"), {"a": value, "b": value - 1})
            self.fails(Same(value, value - 1), {})
            self.fails(Same("a", value), {"a": -value})

    def test_names_of_eight_letters(self):
        cond = Same("abcdefgh", "abcdefgi")
        self.holds(cond, {"abcdefgh": 1, "abcdefgi": 1, "abcdefg": 2})
        self.fails(cond, {"abcdefgh": 1, "abcdefgi": 2, "abcdefg": 1})

    def test_of_none(self):
        for filling in ({}, {"a": 1}):
            self.holds(AllOf([]), filling)
            self.fails(OneOf([]), filling)

    def test_of_one(self):
        for sort in (AllOf, OneOf):
            self.holds(sort([Same("a", 1)]), {"a": 1})
            self.fails(sort([Same("a", 1)]), {"a": 2})

    def test_all_of_and_one_of_by_each_choice_of_parts(self):
        for number in range(16):
            said = [number // 2 ** place % 2 == 1 for place in range(4)]
            filling = {"a": int(said[0]), "b": int(said[1]), "c": int(said[2])}
            parts = [Same("a", 1), Same(1, "b"), Opposite(Same("c", 0)), Truth(said[3])]
            with self.subTest(said=said):
                self.assertIs(AllOf(parts).truth(filling), all(said))
                self.assertIs(OneOf(parts).truth(filling), any(said))

    def test_opposite(self):
        self.holds(Opposite(Same("a", 1)), {"a": 2})
        self.fails(Opposite(Same("a", 1)), {"a": 1})
        self.holds(Opposite(Opposite(Same("a", 1))), {"a": 1})
        self.fails(Opposite(Opposite(Same("a", 1))), {"a": 2})
        self.holds(Opposite(OneOf([])), {})
        self.fails(Opposite(AllOf([])), {})

    def test_one_within_another(self):
        cond = AllOf([OneOf([Same("a", 1), Same("b", "c")]), Opposite(AllOf([Same("a", "b"), Same("c", 2)]))])
        for a in range(4):
            for b in range(4):
                for c in range(4):
                    wanted = (a == 1 or b == c) and not (a == b and c == 2)
                    with self.subTest(a=a, b=b, c=c):
                        self.assertIs(cond.truth({"a": a, "b": b, "c": c}), wanted)

    def test_twenty_one_within_another(self):
        for layers in range(20):
            cond = layered(Same("a", "b"), layers)
            turned = len([number for number in range(layers) if number % 4 in (0, 3)]) % 2 == 1
            with self.subTest(layers=layers):
                self.assertIs(cond.truth({"a": 5, "b": 5}), not turned)
                self.assertIs(cond.truth({"a": 5, "b": 6}), turned)

    def test_twenty_opposites(self):
        cond = Same("a", 1)
        for layers in range(1, 20):
            cond = Opposite(cond)
            self.assertIs(cond.truth({"a": 1}), layers % 2 == 0)
            self.assertIs(cond.truth({"a": 2}), layers % 2 == 1)

    def test_two_hundred_atoms(self):
        parts = [Same("a", number) for number in range(29)] * 6 + [Same("a", "b")] * 26
        self.assertEqual(len(parts), 200)
        self.holds(OneOf(parts), {"a": 28, "b": 0})
        self.holds(OneOf(parts), {"a": 29, "b": 29})
        self.fails(OneOf(parts), {"a": 29, "b": 0})
        self.holds(AllOf([Opposite(part) for part in parts]), {"a": 29, "b": 0})
        self.fails(AllOf([Opposite(part) for part in parts]), {"a": 29, "b": 29})

    def test_the_same_object_at_two_places(self):
        part = Same("a", 1)
        self.holds(AllOf([part, part]), {"a": 1})
        self.fails(AllOf([part, part]), {"a": 2})
        for filling in ({"a": 1}, {"a": 2}):
            self.fails(AllOf([part, Opposite(part)]), filling)
            self.holds(OneOf([Opposite(part), part]), filling)
        wide = OneOf([AllOf([part, Same("b", 1)]), AllOf([Opposite(part), Same("b", 2)])])
        self.holds(wide, {"a": 1, "b": 1})
        self.holds(wide, {"a": 2, "b": 2})
        self.fails(wide, {"a": 1, "b": 2})
        self.fails(wide, {"a": 2, "b": 1})

    def test_the_same_object_in_two_conditions(self):
        part = Same("a", 1)
        one, other = AllOf([part, Same("b", 2)]), OneOf([part, Same("c", 3)])
        self.fails(one, {"a": 1, "b": 3})
        self.holds(other, {"a": 1, "c": 4})
        self.holds(part, {"a": 1})

    def test_a_long_condition_at_several_places(self):
        def long():
            return OneOf([AllOf([Same("a", value), Opposite(Same("b", value)), Same("c", "c")]) for value in range(4)])
        part = long()
        shared = OneOf([AllOf([part, Same("c", 1)]), AllOf([Opposite(part), Same("c", 2)]),
                        AllOf([Same("c", 3), part])])
        plain = OneOf([AllOf([long(), Same("c", 1)]), AllOf([Opposite(long()), Same("c", 2)]),
                       AllOf([Same("c", 3), long()])])
        self.assertEqual(shared.atoms(), 39)
        truths = []
        for values in itertools.product(range(5), repeat=3):
            filling = dict(zip("abc", values))
            truths.append(plain.truth(filling))
            self.assertIs(shared.truth(filling), truths[-1])
            self.assertIs(part.truth(filling), long().truth(filling))
        self.assertGreater(truths.count(True), 20)
        for cells in ({"a": "b", "b": "a"}, {"c": 2}, {"a": 1, "d": 5}, {"d": 5}, {}):
            self.assertEqual(shape(shared.put(cells)), shape(plain.put(cells)))

    def test_many_places_without_an_atom(self):
        cond = Truth(True)
        for layer in range(19):
            cond = [AllOf([cond, cond]), OneOf([cond, cond])][layer % 2]
        self.assertEqual(cond.atoms(), 0)
        for number in range(100):
            self.holds(cond, {"a": number})

    def test_asked_again(self):
        cond = OneOf([Same("a", 1), Same("b", 1)])
        for turn in range(2):
            self.holds(cond, {"a": 1, "b": 2})
            self.fails(cond, {"a": 2, "b": 2})
            self.holds(cond, {"a": 2, "b": 1})


class NoFillingTest(unittest.TestCase):
    def refused(self, cond, filling, gap):
        before = dict(filling)
        with self.assertRaises(NoFilling) as caught:
            cond.truth(filling)
        self.assertIsInstance(caught.exception, MaybeError)
        self.assertEqual(caught.exception.gap, gap)
        self.assertEqual(filling, before)

    def test_a_gap_in_a_same(self):
        self.refused(Same("a", 1), {}, "a")
        self.refused(Same(1, "a"), {}, "a")
        self.refused(Same("a", 1), {"b": 1}, "a")
        self.refused(Same("a", "b"), {"a": 1}, "b")
        self.refused(Same("a", "b"), {"b": 1}, "a")

    def test_a_gap_and_itself(self):
        self.refused(Same("a", "a"), {}, "a")
        self.refused(Same("a", "a"), {"b": 1}, "a")

    def test_the_first_by_name(self):
        self.refused(Same("b", "a"), {}, "a")
        self.refused(Same("a", "b"), {}, "a")
        self.refused(AllOf([Same("c", 1), Same("b", 1), Same("d", 1)]), {}, "b")
        self.refused(AllOf([Same("c", 1), Same("b", 1), Same("d", 1)]), {"b": 2}, "c")
        self.refused(OneOf([Same("d", 1), Opposite(Same("c", "d")), AllOf([Same("b", 1)])]), {"b": 1, "d": 1}, "c")
        self.refused(OneOf([Same("d", 1), Opposite(Same("c", "d")), AllOf([Same("b", 1)])]), {"a": 1}, "b")

    def test_by_name_is_the_order_of_sorted(self):
        self.refused(AllOf([Same("b", 1), Same("aa", 1)]), {}, "aa")
        self.refused(AllOf([Same("ab", 1), Same("a", 1)]), {}, "a")
        self.refused(AllOf([Same("b", 1), Same("abcdefgh", 1)]), {}, "abcdefgh")
        self.refused(AllOf([Same("z", 1), Same("yz", 1), Same("yy", 1)]), {"yy": 1}, "yz")

    def test_where_a_truth_settles_it(self):
        self.refused(OneOf([Truth(True), Same("a", 1)]), {}, "a")
        self.refused(OneOf([Same("a", 1), Truth(True)]), {}, "a")
        self.refused(AllOf([Truth(False), Same("a", 1)]), {}, "a")
        self.refused(AllOf([Same("a", 1), Truth(False)]), {}, "a")
        self.refused(Opposite(AllOf([Truth(False), Same("a", 1)])), {}, "a")
        self.refused(AllOf([OneOf([]), OneOf([Truth(True), Opposite(Same(1, "a"))])]), {}, "a")

    def test_where_another_part_settles_it(self):
        self.refused(OneOf([Same("a", 1), Same("b", 1)]), {"a": 1}, "b")
        self.refused(AllOf([Same("a", 1), Same("b", 1)]), {"a": 2}, "b")
        self.refused(OneOf([Same("b", 1), Same("a", 1)]), {"b": 1}, "a")
        self.refused(OneOf([Same("a", 1), Opposite(Same("a", 1)), Same("z", 0)]), {"a": 1}, "z")
        self.refused(AllOf([Same(1, 2), Same("b", 1)]), {}, "b")

    def test_the_first_by_name_stands_behind_what_settles_it(self):
        self.refused(OneOf([Same("b", 1), Truth(True), Same("a", 1)]), {}, "a")
        self.refused(AllOf([Same("c", 1), Same("b", 1), Same("a", 1)]), {"c": 2}, "a")

    def test_deep_within(self):
        self.refused(layered(Same("b", "a"), 19), {"b": 1}, "a")
        self.refused(layered(Same("b", "a"), 19), {}, "a")

    def test_the_same_object_at_two_places(self):
        part = Same("b", "a")
        self.refused(OneOf([part, Opposite(part)]), {"b": 1}, "a")

    def test_gaps_besides_are_not_refused(self):
        self.assertIs(Same("b", 1).truth({"a": 5, "b": 1, "c": 7}), True)
        self.assertIs(Truth(True).truth({"a": 5}), True)
        self.assertIs(Same(1, 2).truth({"a": 5}), False)
        self.assertIs(AllOf([]).truth({"a": 5}), True)

    def test_0_is_a_value_too(self):
        self.assertIs(Same("a", 0).truth({"a": 0}), True)
        self.assertIs(Same("a", "b").truth({"a": 0, "b": 1}), False)

    def test_nothing_is_wanted_where_no_gap_stands(self):
        self.assertIs(AllOf([Same(1, 1), OneOf([Truth(True)])]).truth({}), True)

    def test_the_filling_stays(self):
        cond = AllOf([Same("b", "a"), Opposite(Same("a", 1)), OneOf([Same("b", 3), Same(3, "a")])])
        filling = {"c": 1, "b": 3, "a": 3}
        before = list(filling.items())
        self.assertIs(cond.truth(filling), True)
        self.assertEqual(list(filling.items()), before)

    def test_a_filling_changed_behind_changes_nothing(self):
        cond = Same("a", 1)
        filling = {"a": 1}
        self.assertIs(cond.truth(filling), True)
        filling["a"] = 2
        self.assertIs(cond.truth({"a": 1}), True)
        self.assertIs(cond.truth(filling), False)
        filling.clear()
        self.refused(cond, filling, "a")

    def test_after_a_refusal(self):
        cond = OneOf([Same("a", 1), Same("b", 1)])
        self.refused(cond, {"a": 1}, "b")
        self.assertIs(cond.truth({"a": 1, "b": 0}), True)
        self.assertIs(cond.truth({"a": 0, "b": 0}), False)


class StandingTest(unittest.TestCase):
    def stands(self, cond, gaps, values, atoms):
        self.assertEqual(cond.gaps(), gaps)
        self.assertEqual(cond.standing(), values)
        self.assertEqual(cond.atoms(), atoms)
        self.assertIs(type(cond.gaps()), list)
        self.assertIs(type(cond.standing()), list)
        self.assertIs(type(cond.atoms()), int)

    def test_of_each_sort(self):
        self.stands(Truth(True), [], [], 0)
        self.stands(Truth(False), [], [], 0)
        self.stands(Same("a", 1), ["a"], [1], 1)
        self.stands(Same(1, "a"), ["a"], [1], 1)
        self.stands(Same("b", "a"), ["a", "b"], [], 1)
        self.stands(Same(2, 1), [], [1, 2], 1)
        self.stands(Same("a", "a"), ["a"], [], 1)
        self.stands(Same(0, 0), [], [0], 1)
        self.stands(AllOf([]), [], [], 0)
        self.stands(OneOf([]), [], [], 0)
        self.stands(AllOf([Same("b", 2), Same("a", 1)]), ["a", "b"], [1, 2], 2)
        self.stands(OneOf([Same("b", 2), Same("a", 1)]), ["a", "b"], [1, 2], 2)
        self.stands(Opposite(Same("b", 2)), ["b"], [2], 1)

    def test_gaps_sorted_each_once(self):
        cond = AllOf([Same("b", "aa"), Same("ab", 1), OneOf([Same("a", "b"), Same("zz", "z")]), Same("aa", "aa")])
        self.assertEqual(cond.gaps(), ["a", "aa", "ab", "b", "z", "zz"])

    def test_values_rising_each_once(self):
        cond = OneOf([Same(10, 9), Same("a", -1), AllOf([Same(-10, "b"), Same(100, 9)]), Opposite(Same(0, -1))])
        self.assertEqual(cond.standing(), [-10, -1, 0, 9, 10, 100])
        self.assertEqual(cond.gaps(), ["a", "b"])

    def test_values_of_sixty_figures(self):
        cond = AllOf([Same("a", HIGH), Same(HIGH - 1, "a"), Same(LOW, LOW + 1), Same("b", HIGH)])
        self.assertEqual(cond.standing(), [LOW, LOW + 1, HIGH - 1, HIGH])

    def test_what_does_not_matter_stands_there_too(self):
        self.stands(OneOf([Truth(True), Same("b", 2), Same("a", "a")]), ["a", "b"], [2], 2)
        self.stands(AllOf([Truth(False), Same(3, 3), Opposite(Same("c", 1))]), ["c"], [1, 3], 2)

    def test_atoms_as_often_as_they_stand_there(self):
        part = Same("a", 1)
        self.stands(AllOf([part, part]), ["a"], [1], 2)
        self.stands(AllOf([Same("a", 1), Same("a", 1)]), ["a"], [1], 2)
        self.stands(OneOf([part, Opposite(part), AllOf([part, Truth(True)])]), ["a"], [1], 3)
        both = OneOf([part, part])
        self.stands(AllOf([both, both, part]), ["a"], [1], 5)

    def test_two_hundred_atoms(self):
        parts = [Same("a", number % 7) for number in range(100)]
        self.stands(AllOf([OneOf(parts), Opposite(AllOf(parts))]), ["a"], [0, 1, 2, 3, 4, 5, 6], 200)

    def test_twenty_one_within_another(self):
        for layers in range(20):
            self.stands(layered(Same("b", "a"), layers), ["a", "b"], [], 1)
            self.stands(layered(Same(4, "a"), layers), ["a"], [4], 1)

    def test_told_lists_changed_change_nothing(self):
        for make in (lambda: Same("b", 2), lambda: AllOf([Same("b", 2)]), lambda: OneOf([Same("b", 2)]),
                     lambda: Opposite(Same("b", 2))):
            cond = make()
            cond.gaps().append("c")
            cond.standing().append(3)
            gaps, values = cond.gaps(), cond.standing()
            gaps[0] = "z"
            values[0] = 9
            self.stands(cond, ["b"], [2], 1)
            self.assertIs(cond.truth({"b": 2}), not isinstance(cond, Opposite))
            self.assertEqual(cond.put({"b": "d"}).gaps(), ["d"])
            cond.gaps().clear()
            cond.standing().clear()
            self.stands(cond, ["b"], [2], 1)
            with self.assertRaises(NoFilling) as caught:
                cond.truth({"z": 2})
            self.assertEqual(caught.exception.gap, "b")

    def test_told_lists_of_a_part_changed_change_nothing_around_it(self):
        part = Same("b", 2)
        whole = AllOf([part, Same("a", 1)])
        part.gaps().append("x")
        part.standing().append(5)
        whole.gaps().append("y")
        whole.standing().append(6)
        self.stands(whole, ["a", "b"], [1, 2], 2)
        self.stands(part, ["b"], [2], 1)

    def test_empty_told_lists_changed_change_nothing(self):
        for cond in (Truth(True), AllOf([]), OneOf([])):
            cond.gaps().append("c")
            cond.standing().append(3)
            self.stands(cond, [], [], 0)
        self.stands(Truth(True), [], [], 0)
        self.stands(AllOf([]), [], [], 0)


class PutTest(unittest.TestCase):
    def becomes(self, cond, cells, wanted):
        before, handed = copy.deepcopy(shape(cond)), list(cells.items())
        told = cond.put(cells)
        self.assertIsInstance(told, Cond)
        self.assertEqual(shape(told), shape(wanted))
        self.assertEqual(told.gaps(), wanted.gaps())
        self.assertEqual(told.standing(), wanted.standing())
        self.assertEqual(told.atoms(), wanted.atoms())
        self.assertEqual(shape(cond), before)
        self.assertEqual(list(cells.items()), handed)
        return told

    def test_gaps_to_values(self):
        self.becomes(Same("a", "b"), {"a": 1}, Same(1, "b"))
        self.becomes(Same("a", "b"), {"b": 1}, Same("a", 1))
        self.becomes(Same("a", "b"), {"a": 1, "b": -2}, Same(1, -2))
        self.becomes(Same("a", 5), {"a": 5}, Same(5, 5))
        self.becomes(Same("a", "a"), {"a": 7}, Same(7, 7))

    def test_gaps_to_0_and_to_values_of_sixty_figures(self):
        self.becomes(Same("a", "b"), {"a": 0, "b": HIGH}, Same(0, HIGH))
        self.becomes(Same(1, "b"), {"b": LOW}, Same(1, LOW))

    def test_gaps_to_other_gaps(self):
        self.becomes(Same("a", 1), {"a": "b"}, Same("b", 1))
        self.becomes(Same(1, "a"), {"a": "abcdefgh"}, Same(1, "abcdefgh"))
        self.becomes(Same("a", "b"), {"a": "b"}, Same("b", "b"))
        self.becomes(Same("a", "b"), {"b": "c"}, Same("a", "c"))
        self.becomes(Same("a", "b"), {"a": "a"}, Same("a", "b"))

    def test_two_gaps_exchanged(self):
        told = self.becomes(AllOf([Same("a", 1), Same("b", 2)]), {"a": "b", "b": "a"},
                            AllOf([Same("b", 1), Same("a", 2)]))
        self.assertIs(told.truth({"a": 2, "b": 1}), True)
        self.assertIs(told.truth({"a": 1, "b": 2}), False)
        self.becomes(Same("a", "b"), {"b": "a", "a": "b"}, Same("b", "a"))

    def test_all_at_once(self):
        cond = AllOf([Same("a", 1), Same("b", 2), Same("c", 3)])
        self.becomes(cond, {"a": "b", "b": "c", "c": "a"}, AllOf([Same("b", 1), Same("c", 2), Same("a", 3)]))
        self.becomes(cond, {"c": "b", "b": "a"}, AllOf([Same("a", 1), Same("a", 2), Same("b", 3)]))
        self.becomes(cond, {"a": "b", "b": 9}, AllOf([Same("b", 1), Same(9, 2), Same("c", 3)]))
        self.becomes(cond, {"b": 9, "a": "b"}, AllOf([Same("b", 1), Same(9, 2), Same("c", 3)]))

    def test_a_gap_that_does_not_stand_there(self):
        self.becomes(Same("a", 1), {"b": 5}, Same("a", 1))
        self.becomes(AllOf([Same("a", 1), Truth(True)]), {"b": "a", "c": 1}, AllOf([Same("a", 1), Truth(True)]))
        self.becomes(Truth(False), {"a": 1}, Truth(False))
        self.becomes(Same(1, 2), {"a": 1}, Same(1, 2))
        self.becomes(AllOf([]), {"a": 1}, AllOf([]))
        self.becomes(OneOf([]), {"a": 1}, OneOf([]))
        self.becomes(Same("ab", "a"), {"a": 1, "b": 2, "abc": 3}, Same("ab", 1))

    def test_an_empty_dict(self):
        cond = OneOf([Same("a", 1), Opposite(Same("b", "c"))])
        self.becomes(cond, {}, OneOf([Same("a", 1), Opposite(Same("b", "c"))]))

    def test_in_each_sort(self):
        self.becomes(AllOf([Same("a", 1), Truth(True), Same("b", "a")]), {"a": "c"},
                     AllOf([Same("c", 1), Truth(True), Same("b", "c")]))
        self.becomes(OneOf([Same("a", 1), Truth(True), Same("b", "a")]), {"a": "c"},
                     OneOf([Same("c", 1), Truth(True), Same("b", "c")]))
        self.becomes(Opposite(Same("b", "a")), {"b": 4}, Opposite(Same(4, "a")))
        self.becomes(AllOf([OneOf([Opposite(AllOf([Same("a", "b")]))]), OneOf([])]), {"b": 4},
                     AllOf([OneOf([Opposite(AllOf([Same("a", 4)]))]), OneOf([])]))

    def test_twenty_one_within_another(self):
        for layers in range(20):
            self.becomes(layered(Same("a", "b"), layers), {"a": "b", "b": 2}, layered(Same("b", 2), layers))

    def test_the_same_object_at_two_places(self):
        part = Same("a", "b")
        self.becomes(OneOf([part, Opposite(part), AllOf([part])]), {"a": 3},
                     OneOf([Same(3, "b"), Opposite(Same(3, "b")), AllOf([Same(3, "b")])]))
        self.assertEqual((part.one, part.other), ("a", "b"))

    def test_holds_where_the_cells_come_to_the_same(self):
        cond = OneOf([AllOf([Same("a", "b"), Opposite(Same("c", 1))]), Same("b", 2)])
        told = cond.put({"a": "c", "c": 1, "b": "a"})
        for a in range(4):
            for c in range(4):
                with self.subTest(a=a, c=c):
                    self.assertIs(told.truth({"a": a, "c": c}), cond.truth({"a": c, "b": a, "c": 1}))

    def test_what_is_told_refuses_by_its_own_gaps(self):
        told = OneOf([Same("a", 1), Same("b", 2)]).put({"a": "z", "b": 2})
        self.assertEqual(told.gaps(), ["z"])
        with self.assertRaises(NoFilling) as caught:
            told.truth({"a": 1, "b": 2})
        self.assertEqual(caught.exception.gap, "z")

    def test_the_condition_stays(self):
        cond = AllOf([Same("a", 1), Same("b", 2)])
        cond.put({"a": 9, "b": "c"})
        self.assertEqual(cond.gaps(), ["a", "b"])
        self.assertEqual(cond.standing(), [1, 2])
        self.assertIs(cond.truth({"a": 1, "b": 2}), True)
        self.assertIs(cond.truth({"a": 9, "b": 2}), False)

    def test_the_dict_changed_behind_changes_nothing(self):
        cells = {"a": "c"}
        cond = AllOf([Same("a", 1), Opposite(Same("b", "a"))])
        told = cond.put(cells)
        cells["a"] = "d"
        cells["b"] = 7
        self.assertEqual(shape(told), ("all", [("same", "c", 1), ("opposite", ("same", "b", "c"))]))
        self.assertEqual(told.gaps(), ["b", "c"])
        self.assertEqual(told.standing(), [1])
        self.assertIs(told.truth({"b": 2, "c": 1}), True)
        cells.clear()
        self.assertIs(told.truth({"b": 1, "c": 1}), False)
        self.assertEqual(shape(told.put({"b": 3})), ("all", [("same", "c", 1), ("opposite", ("same", 3, "c"))]))

    def test_put_again(self):
        cond = Same("a", "b")
        self.assertEqual(shape(cond.put({"a": "c"}).put({"c": 1, "a": 2})), ("same", 1, "b"))
        self.assertEqual(shape(cond.put({"a": 1})), ("same", 1, "b"))
        self.assertEqual(shape(cond.put({"b": 2})), ("same", "a", 2))

    def test_told_lists_of_what_is_told_change_nothing(self):
        cond = Same("a", 1)
        told = cond.put({"b": 2})
        told.gaps().append("x")
        told.standing().append(5)
        self.assertEqual((cond.gaps(), cond.standing()), (["a"], [1]))
        self.assertEqual((told.gaps(), told.standing()), (["a"], [1]))


if __name__ == "__main__":
    unittest.main()
