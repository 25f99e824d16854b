"""Conditions looked at, and papers."""

import itertools
import random
import sys
import unittest

from maybetables.conds import AllOf, OneOf, Opposite, Same, Truth
from maybetables.errors import MaybeError, TooMany
from maybetables.fillings import bound, kinds
from maybetables.looking import is_paper, looked
from tests.samples import HIGH, drawn_conds, layered, paper_by_words, small_conds, splits_deep

YES, NO = Truth(True), Truth(False)
HOLDS = ("holds",)
EITHER = OneOf([Same("a", 1), Opposite(Same("a", 1))])


def pairs(gaps, values):
    """A Same of each gap with each value and with each gap behind it."""
    told = []
    for number, gap in enumerate(gaps):
        told.extend(Same(gap, cell) for cell in list(values) + list(gaps[number + 1:]))
    return told


def told_of_each(sames):
    """A condition that can't fail, and of which nothing less is known than all its parts."""
    return AllOf([OneOf([same, Opposite(same)]) for same in sames])


def widest():
    """(gaps, values) for each number of gaps, with as many values as the bound of a thousand leaves."""
    return [("a", range(1, 31)), ("ab", range(30)), ("abc", range(8)), ("abcd", range(-1, 2)), ("abcde", [5]),
            ("abcdef", [])]


def drawn_paper(chance, deep):
    """Some paper, right or wrong."""
    cells = ["a", "b", 1, 2]
    if deep == 0 or chance.random() < 0.3:
        if chance.random() < 0.6:
            return HOLDS
        return ("clash", tuple(chance.choice(cells) for place in range(chance.randint(0, 3))))
    return ("split", chance.choice(cells), chance.choice(cells), drawn_paper(chance, deep - 1),
            drawn_paper(chance, deep - 1))


class PaperTest(unittest.TestCase):
    def stands(self, cond, paper):
        self.assertIs(is_paper(cond, paper), True)
        self.assertIs(paper_by_words(cond, paper), True)

    def falls(self, cond, paper):
        self.assertIs(is_paper(cond, paper), False)
        self.assertIs(paper_by_words(cond, paper), False)

    def test_holds(self):
        self.stands(YES, HOLDS)
        self.stands(Same(2, 2), HOLDS)
        self.stands(Same("a", "a"), HOLDS)
        self.stands(AllOf([]), HOLDS)
        self.stands(Opposite(Same(2, 3)), HOLDS)
        self.falls(NO, HOLDS)
        self.falls(Same(2, 3), HOLDS)
        self.falls(OneOf([]), HOLDS)

    def test_holds_where_it_is_open(self):
        self.falls(Same("a", 1), HOLDS)
        self.falls(Opposite(Same("a", 1)), HOLDS)
        self.falls(EITHER, HOLDS)

    def test_split(self):
        self.stands(EITHER, ("split", "a", 1, HOLDS, HOLDS))
        self.stands(EITHER, ("split", 1, "a", HOLDS, HOLDS))
        self.falls(EITHER, ("split", "a", 2, HOLDS, HOLDS))
        self.falls(EITHER, ("split", "b", 1, HOLDS, HOLDS))
        self.falls(Same("a", 1), ("split", "a", 1, HOLDS, HOLDS))
        self.falls(Opposite(Same("a", 1)), ("split", "a", 1, HOLDS, HOLDS))

    def test_each_side_of_a_split_is_asked(self):
        inner = ("split", "a", 1, HOLDS, HOLDS)
        self.stands(EITHER, ("split", "b", 3, inner, inner))
        self.falls(EITHER, ("split", "b", 3, inner, HOLDS))
        self.falls(EITHER, ("split", "b", 3, HOLDS, inner))

    def test_alike_and_unlike_are_not_exchanged(self):
        cond = Opposite(AllOf([Same("a", 1), Same("a", 2)]))
        inner = ("split", "a", 2, ("clash", (1, "a", 2)), HOLDS)
        self.stands(cond, ("split", "a", 1, inner, HOLDS))
        self.falls(cond, ("split", "a", 1, HOLDS, inner))
        self.falls(cond, ("split", "a", 1, ("split", "a", 2, HOLDS, ("clash", (1, "a", 2))), HOLDS))

    def test_holds_where_what_is_assumed_clashes(self):
        cond = Opposite(AllOf([Same("a", 1), Same("a", 2)]))
        self.falls(cond, ("split", "a", 1, ("split", "a", 2, HOLDS, HOLDS), HOLDS))
        self.stands(Same(1, 1), ("split", 1, 2, HOLDS, HOLDS))
        self.stands(cond, ("split", "a", 1, HOLDS, HOLDS))

    def test_clash_of_values(self):
        self.stands(Same(2, 2), ("split", 1, 2, ("clash", (1, 2)), HOLDS))
        self.stands(Same(2, 2), ("split", 1, 2, ("clash", (2, 1)), HOLDS))
        self.falls(Same(2, 2), ("split", 1, 2, ("clash", (1, 3)), HOLDS))
        self.falls(Same(2, 2), ("split", 1, 2, ("clash", (1,)), HOLDS))
        self.falls(Same(2, 2), ("split", 1, 2, ("clash", (1, 2, 1)), HOLDS))
        self.stands(Same(2, 2), ("split", 1, 2, ("clash", (1, 2, 1, 2)), HOLDS))

    def test_clash_of_a_cell_unlike_itself(self):
        for cell in ("a", 0, 7):
            self.stands(YES, ("split", cell, cell, HOLDS, ("clash", (cell,))))
            self.falls(YES, ("split", cell, cell, HOLDS, ("clash", (cell, cell))))
            self.falls(YES, ("split", cell, cell, ("clash", (cell,)), HOLDS))
            self.falls(YES, ("split", cell, cell, ("clash", (cell, cell)), HOLDS))

    def test_clash_of_cells_alike_and_unlike(self):
        for one, other in (("a", "b"), ("b", "a")):
            for chain in (("a", "b"), ("b", "a")):
                inner = ("split", one, other, HOLDS, ("clash", chain))
                self.stands(YES, ("split", "a", "b", inner, HOLDS))
                self.falls(YES, ("split", "a", "b", HOLDS, inner))
        self.stands(YES, ("split", "a", "b", HOLDS, ("split", "b", "a", ("clash", ("b", "a")), HOLDS)))

    def test_a_clash_makes_a_paper_for_what_can_fail_nowhere(self):
        self.falls(NO, ("split", "a", 1, ("clash", ("a", 1)), ("clash", ("a", 1))))
        self.falls(NO, ("split", "a", "a", HOLDS, ("clash", ("a",))))
        self.falls(NO, ("split", 1, 2, ("clash", (1, 2)), HOLDS))
        self.falls(NO, ("clash", (1, 2)))

    def test_what_is_no_chain(self):
        for chain in ((), ("a",), (1,), ("a", "b"), (1, 2), ("a", 1, "a"), (1, 1)):
            self.falls(YES, ("clash", chain))
            self.falls(YES, ("split", "b", "c", ("clash", chain), HOLDS))
            self.falls(YES, ("split", "b", "c", HOLDS, ("clash", chain)))

    def test_neighbours_are_assumed_alike_themselves(self):
        def paper(chain):
            return ("split", "a", "b", ("split", "c", "b", ("split", "a", "c", HOLDS, ("clash", chain)), HOLDS), HOLDS)
        self.stands(YES, paper(("a", "b", "c")))
        self.stands(YES, paper(("c", "b", "a")))
        self.stands(YES, paper(("a", "b", "a", "b", "c")))
        self.falls(YES, paper(("a", "c")))
        self.falls(YES, paper(("c", "a")))
        self.falls(YES, paper(("a", "b")))
        self.falls(YES, paper(("b", "b")))
        self.falls(YES, paper(("a", "a", "b", "c")))
        self.falls(YES, paper(()))

    def test_of_what_is_assumed_only_what_stands_above(self):
        left = ("split", "a", 1, HOLDS, HOLDS)
        self.falls(YES, ("split", "a", 2, left, ("clash", (1, "a", 2))))
        right = ("split", "a", 1, ("clash", (1, "a", 2)), HOLDS)
        self.falls(YES, ("split", "b", 3, ("split", "a", 2, left, HOLDS), right))
        self.stands(YES, ("split", "b", 3, left, ("split", "a", 2, right, HOLDS)))

    def test_cells_that_do_not_stand_in_the_condition(self):
        inner = ("split", "a", 1, HOLDS, HOLDS)
        self.stands(EITHER, ("split", "zz", HIGH, inner, ("split", -9, "y", inner, inner)))

    def test_by_a_split_of_two_gaps(self):
        cond = OneOf([Opposite(Same("a", "b")), Opposite(Same("b", "c")), Same("a", "c")])
        self.stands(cond, ("split", "a", "b", ("split", "b", "c", HOLDS, HOLDS), HOLDS))
        self.stands(cond, ("split", "c", "a", HOLDS, ("split", "a", "b", HOLDS, HOLDS)))
        self.falls(cond, ("split", "a", "b", HOLDS, HOLDS))

    def test_a_hundred_splits_one_within_another(self):
        sides = ("split", "a", 1, HOLDS, HOLDS)
        paper, wrong = sides, HOLDS
        for number in range(99):
            paper = ("split", "b", number, sides, paper)
            wrong = ("split", "b", number, sides, wrong)
        self.assertEqual(splits_deep(paper), 100)
        self.stands(EITHER, paper)
        self.falls(EITHER, wrong)

    def test_a_chain_of_a_hundred_cells(self):
        gaps = [chr(97 + number // 26) + chr(97 + number % 26) for number in range(100)]
        paper = ("split", gaps[0], gaps[-1], HOLDS, ("clash", tuple(gaps)))
        wrong = ("split", gaps[0], gaps[-1], HOLDS, ("clash", tuple(gaps[:50] + gaps[51:])))
        for one, other in zip(gaps, gaps[1:]):
            paper = ("split", one, other, paper, HOLDS)
            wrong = ("split", other, one, wrong, HOLDS)
        self.assertEqual(splits_deep(paper), 100)
        self.stands(YES, paper)
        self.falls(YES, wrong)

    def test_just_as_the_words_say(self):
        chance = random.Random(4)
        conds = [YES, Same(1, 1), EITHER, Opposite(Same(1, 2)), OneOf([Same("b", 2), EITHER]),
                 Opposite(AllOf([Same("a", 1), Same("a", 2)])), OneOf([Opposite(Same("a", "b")), Same("b", "a")])]
        told = []
        for number in range(6000):
            cond, paper = conds[number % len(conds)], drawn_paper(chance, 4)
            said = is_paper(cond, paper)
            self.assertIs(said, paper_by_words(cond, paper), paper)
            told.append(said)
        self.assertGreater(told.count(True), 300)
        self.assertGreater(told.count(False), 300)

    def test_none_for_a_condition_that_fails_somewhere(self):
        chance = random.Random(6)
        for number in range(4000):
            paper = drawn_paper(chance, 4)
            for cond in (Same("a", 1), OneOf([Same("a", "b"), Same("b", 1)]), NO):
                self.assertIs(is_paper(cond, paper), False)

    def test_arguments_by_name(self):
        self.assertIs(is_paper(cond=YES, paper=HOLDS), True)


class LookedTest(unittest.TestCase):
    def fails_somewhere(self, cond):
        """A filling of just its gaps is told at which it does not hold."""
        told = looked(cond)
        self.assertIs(type(told), tuple)
        self.assertEqual(len(told), 2)
        self.assertEqual(told[0], "filling")
        self.assertIs(type(told[1]), dict)
        self.assertEqual(sorted(told[1]), cond.gaps())
        for value in told[1].values():
            self.assertIs(type(value), int)
        self.assertIs(cond.truth(told[1]), False)
        return told[1]

    def holds_always(self, cond):
        """A paper for it is told."""
        told = looked(cond)
        self.assertIs(type(told), tuple)
        self.assertEqual(len(told), 2)
        self.assertEqual(told[0], "paper")
        self.assertLessEqual(splits_deep(told[1]), 100)
        self.well_formed(told[1])
        self.assertIs(is_paper(cond, told[1]), True)
        return told[1]

    def well_formed(self, paper):
        self.assertIs(type(paper), tuple)
        if paper[0] == "split":
            self.assertEqual(len(paper), 5)
            self.well_formed(paper[3])
            self.well_formed(paper[4])
        elif paper[0] == "clash":
            self.assertEqual(len(paper), 2)
            self.assertIs(type(paper[1]), tuple)
        else:
            self.assertEqual(paper, HOLDS)

    def told_right(self, cond):
        if all(cond.truth(filling) for filling in kinds(cond.gaps(), cond.standing())):
            self.assertIs(paper_by_words(cond, self.holds_always(cond)), True)
            return True
        self.fails_somewhere(cond)
        return False

    def refused(self, cond):
        with self.assertRaises(TooMany) as caught:
            looked(cond)
        self.assertIsInstance(caught.exception, MaybeError)

    def test_without_gaps(self):
        for cond in (YES, Same(3, 3), AllOf([]), Opposite(Same(1, 2)), OneOf([NO, YES])):
            self.holds_always(cond)
        for cond in (NO, Same(3, 4), OneOf([]), Opposite(Same(2, 2)), AllOf([YES, NO])):
            self.assertEqual(self.fails_somewhere(cond), {})

    def test_a_same(self):
        self.assertNotEqual(self.fails_somewhere(Same("a", 1))["a"], 1)
        self.assertNotEqual(self.fails_somewhere(Same(0, "a"))["a"], 0)
        self.assertEqual(self.fails_somewhere(Opposite(Same("a", 1))), {"a": 1})
        self.assertEqual(self.fails_somewhere(Opposite(Same("a", -HIGH))), {"a": -HIGH})
        self.assertEqual(len(set(self.fails_somewhere(Same("b", "a")).values())), 2)
        self.assertEqual(len(set(self.fails_somewhere(Opposite(Same("b", "a"))).values())), 1)
        self.holds_always(Same("a", "a"))

    def test_what_can_not_fail(self):
        self.holds_always(EITHER)
        self.holds_always(Opposite(AllOf([Same("a", 1), Same("a", 2)])))
        self.holds_always(OneOf([Opposite(Same("a", "b")), Opposite(Same("b", "c")), Same("a", "c")]))
        self.holds_always(OneOf([Opposite(Same("a", 1)), Opposite(Same("b", 1)), Same("a", "b")]))
        self.holds_always(Opposite(AllOf([Same("a", 1), Same("a", "b"), Same("b", 2)])))

    def test_there_are_always_further_values(self):
        self.fails_somewhere(OneOf([Same("a", number) for number in range(30)]))
        self.fails_somewhere(OneOf([Same("a", 0), Same("a", 1), Same("b", 0), Same("b", 1), Same("a", "b")]))
        self.fails_somewhere(OneOf([Same(*pair) for pair in itertools.combinations("abcdef", 2)]))

    def test_a_gap_that_does_not_matter_is_in_the_filling(self):
        self.fails_somewhere(AllOf([Same("a", 1), Same("b", "b")]))
        self.fails_somewhere(AllOf([NO, Same("c", 1)]))
        self.fails_somewhere(AllOf([Opposite(Same("a", 0)), Same("b", 0), Same("c", 0)]))
        self.holds_always(OneOf([YES, Same("c", 1)]))

    def test_where_it_fails_at_one_kind_alone(self):
        for gaps, values in [("ab", [0, 5]), ("abc", [1]), ("abcd", [])]:
            sames = pairs(gaps, values)
            for filling in kinds(list(gaps), values):
                cond = OneOf([Opposite(same) if same.truth(filling) else same for same in sames])
                told = self.fails_somewhere(cond)
                for same in sames:
                    self.assertIs(same.truth(told), same.truth(filling))

    def test_small_conditions(self):
        told = [self.told_right(cond) for cond in small_conds(["a", "b", 1, 2])]
        self.assertGreater(told.count(True), 300)
        self.assertGreater(told.count(False), 300)

    def test_larger_conditions(self):
        told = []
        for cond in drawn_conds(500):
            told.append(self.told_right(cond))
            told.append(self.told_right(OneOf([cond, Opposite(cond)])))
        self.assertGreater(told.count(True), 300)
        self.assertGreater(told.count(False), 300)

    def test_twenty_one_within_another(self):
        for layers in range(18):
            self.holds_always(OneOf([layered(Same("a", "b"), layers), Opposite(layered(Same("b", "a"), layers))]))
            self.fails_somewhere(layered(Same("a", "b"), layers))

    def test_as_wide_as_may_be(self):
        for gaps, values in widest():
            self.assertLessEqual(bound(len(gaps), len(values)), 1000)
            sames = pairs(gaps, values)
            with self.subTest(gaps=gaps):
                paper = self.holds_always(told_of_each(sames))
                self.assertGreaterEqual(splits_deep(paper), len(values))
                self.fails_somewhere(OneOf(sames))
                self.fails_somewhere(AllOf([told_of_each(sames), OneOf(sames)]))
                self.fails_somewhere(OneOf([Opposite(same) for same in sames[:1]]))

    def test_two_hundred_atoms(self):
        sames = pairs("ab", range(30))
        every = sames + sames[:39]
        self.assertEqual(told_of_each(every).atoms(), 200)
        self.holds_always(told_of_each(every))
        self.fails_somewhere(AllOf([OneOf(sames), told_of_each(every[:69])]))

    def test_many_places_without_an_atom(self):
        cond = YES
        for layer in range(17):
            cond = AllOf([cond, cond]) if layer % 2 else OneOf([cond, cond])
        self.fails_somewhere(AllOf([cond, OneOf([Same("a", number) for number in range(30)])]))
        self.holds_always(OneOf([AllOf([Same("a", "b"), Opposite(cond)]), cond]))

    def test_refused_above_a_bound_of_a_thousand(self):
        for gaps, values in [("ab", range(31)), ("abc", range(9)), ("abcd", range(4)), ("abcde", [1, 2]),
                             ("abcdef", [0]), ("abcdefg", [])]:
            self.assertGreater(bound(len(gaps), len(values)), 1000)
            with self.subTest(gaps=gaps):
                self.refused(OneOf(pairs(gaps, values)))
                self.refused(told_of_each(pairs(gaps, values)))

    def test_refused_also_where_gaps_and_values_do_not_matter(self):
        seven = AllOf([Same(gap, gap) for gap in "abcdefg"])
        self.refused(seven)
        self.refused(OneOf([YES, seven]))
        self.refused(AllOf([NO, seven]))
        six = AllOf([Same(gap, gap) for gap in "abcdef"])
        self.holds_always(six)
        self.refused(AllOf([six, Same(4, 4)]))
        self.refused(AllOf([Same("a", "a"), Same("b", "b"), AllOf([Same(4, number) for number in range(31)])]))

    def test_a_gap_or_value_that_stands_twice_counts_once(self):
        six = AllOf([Same(gap, gap) for gap in "abcdef"])
        self.holds_always(AllOf([six, six, Opposite(Opposite(six))]))
        self.holds_always(OneOf([Same("a", number % 30) for number in range(60)]
                                + [AllOf([Opposite(Same("a", number)) for number in range(30)])]))

    def test_without_gaps_there_are_never_too_many(self):
        self.holds_always(AllOf([Same(number, number) for number in range(200)]))
        self.assertEqual(self.fails_somewhere(OneOf([Same(number, 200) for number in range(200)])), {})

    def test_calls_do_not_go_deep(self):
        deepest = layered(told_of_each(pairs("ab", range(30))), 16)
        limit = sys.getrecursionlimit()
        frame, depth = sys._getframe(), 0
        while frame is not None:
            frame, depth = frame.f_back, depth + 1
        sys.setrecursionlimit(depth + 250)
        try:
            told = looked(deepest)
            right = is_paper(deepest, told[1])
        finally:
            sys.setrecursionlimit(limit)
        self.assertIs(right, True)

    def test_the_condition_stays(self):
        part = Same("a", 1)
        cond = OneOf([part, AllOf([Opposite(part), YES]), Same("b", "a")])
        parts = cond.parts
        looked(cond)
        self.assertEqual(cond.parts, parts)
        self.assertEqual((cond.gaps(), cond.standing(), cond.atoms()), (["a", "b"], [1], 3))

    def test_told_fillings_belong_to_whoever_asked(self):
        cond = AllOf([Same("a", 1), Same("b", "a")])
        told = looked(cond)[1]
        told["a"] = 1
        told.clear()
        self.fails_somewhere(cond)
        looked(NO)[1]["a"] = 1
        self.assertEqual(looked(NO), ("filling", {}))

    def test_arguments_by_name(self):
        self.assertEqual(looked(cond=NO), ("filling", {}))


if __name__ == "__main__":
    unittest.main()
