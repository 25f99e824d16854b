"""Assumed things: clashes, fillings that agree, and what is known of a condition."""

import itertools
import random
import unittest

from maybetables.conds import AllOf, OneOf, Opposite, Same, Truth
from maybetables.fillings import kinds
from maybetables.knowing import agreeing, clash, known
from tests.samples import (
    HIGH, agrees, cells_of, clash_by_words, drawn_conds, known_by_words, layered, small_conds)

YES, NO = Truth(True), Truth(False)


def names(many):
    """So many unlike gaps."""
    return ["g" + chr(97 + number // 26) + chr(97 + number % 26) for number in range(many)]


def things(cells):
    """Every assumed thing of these cells."""
    return [(one, other, said) for one in cells for other in cells for said in (True, False)]


def drawn_lists(many, longest):
    """So many lists of assumed things, the same each time."""
    chance = random.Random(2)
    told = []
    for number in range(many):
        cells = chance.choice([["a", "b", "c", 1], ["a", "b", "c", "d", 0, 1, -1], ["a", "b", 0, 1, 2, 3]])
        likely = chance.random()
        told.append([(chance.choice(cells), chance.choice(cells), chance.random() < likely)
                     for place in range(chance.randint(0, longest))])
    return told


def can_agree(assumed):
    """Whether a filling of some kind agrees with assumed things."""
    cells = cells_of(assumed)
    gaps = [cell for cell in cells if isinstance(cell, str)]
    values = [cell for cell in cells if not isinstance(cell, str)]
    return any(agrees(filling, assumed) for filling in kinds(gaps, values))


class ClashTest(unittest.TestCase):
    def clashes(self, assumed, chains=None):
        """A clash is told, and no filling; the clash is one of those that are wanted, if any are."""
        before = list(assumed)
        told = clash(assumed)
        self.assertIs(type(told), tuple)
        self.assertTrue(clash_by_words(told, assumed), (told, assumed))
        if chains is not None:
            self.assertIn(told, chains)
        self.assertIsNone(agreeing(assumed))
        self.assertEqual(assumed, before)

    def agrees(self, assumed):
        """No clash is told, but a filling of just the gaps, which agrees."""
        before = list(assumed)
        self.assertIsNone(clash(assumed))
        filling = agreeing(assumed)
        self.assertIs(type(filling), dict)
        self.assertEqual(sorted(filling), sorted(cell for cell in cells_of(assumed) if isinstance(cell, str)))
        for value in filling.values():
            self.assertIs(type(value), int)
        self.assertTrue(agrees(filling, assumed), (filling, assumed))
        self.assertEqual(assumed, before)
        return filling

    def test_of_nothing(self):
        self.assertEqual(self.agrees([]), {})

    def test_two_values(self):
        self.clashes([(3, 4, True)], [(3, 4), (4, 3)])
        self.clashes([(-3, 3, True)], [(-3, 3), (3, -3)])
        self.clashes([(0, HIGH, True)])
        self.assertEqual(self.agrees([(3, 4, False)]), {})
        self.assertEqual(self.agrees([(3, 3, True)]), {})

    def test_a_value_unlike_itself(self):
        self.clashes([(3, 3, False)], [(3,)])
        self.clashes([(0, 0, False)], [(0,)])

    def test_a_gap_unlike_itself(self):
        self.clashes([("a", "a", False)], [("a",)])
        self.clashes([("b", "c", True), ("a", "a", False)], [("a",)])

    def test_a_gap_like_itself(self):
        self.assertEqual(list(self.agrees([("a", "a", True)])), ["a"])
        self.clashes([("a", "a", True), ("a", "a", False)])

    def test_a_gap_and_a_value(self):
        self.assertEqual(self.agrees([("a", 5, True)]), {"a": 5})
        self.assertEqual(self.agrees([(5, "a", True)]), {"a": 5})
        self.assertEqual(self.agrees([("a", -5, True), ("b", "a", True)]), {"a": -5, "b": -5})
        self.assertEqual(self.agrees([("a", 0, True)]), {"a": 0})
        self.assertEqual(self.agrees([("a", HIGH, True)]), {"a": HIGH})

    def test_unlike_many_values(self):
        for many in range(12):
            self.agrees([("a", number, False) for number in range(many)])
            self.agrees([(number, "a", False) for number in range(many)] + [("a", "b", False), ("b", "c", True)])

    def test_two_gaps(self):
        filling = self.agrees([("a", "b", True)])
        self.assertEqual(filling["a"], filling["b"])
        filling = self.agrees([("a", "b", False)])
        self.assertNotEqual(filling["a"], filling["b"])

    def test_alike_and_unlike_in_either_order(self):
        for alike in ("ab", "ba"):
            for unlike in ("ab", "ba"):
                assumed = [(alike[0], alike[1], True), (unlike[0], unlike[1], False)]
                self.clashes(assumed, [("a", "b"), ("b", "a")])
                self.clashes(assumed[::-1], [("a", "b"), ("b", "a")])

    def test_a_gap_with_two_values(self):
        self.clashes([("a", 1, True), ("a", 2, True)], [(1, "a", 2), (2, "a", 1)])
        self.clashes([("a", 1, True), (2, "b", True), ("a", "b", True)], [(1, "a", "b", 2), (2, "b", "a", 1)])

    def test_two_gaps_that_have_one_value(self):
        self.clashes([("a", 1, True), ("b", 1, True), ("a", "b", False)], [("a", 1, "b"), ("b", 1, "a")])
        self.agrees([("a", 1, True), ("b", 2, True), ("a", "b", False)])
        self.clashes([("a", 1, True), ("b", 2, True), ("a", "b", True)])

    def test_a_value_that_is_joined_and_unlike(self):
        self.clashes([("a", "b", True), ("b", 1, True), ("a", 1, False)], [("a", "b", 1), (1, "b", "a")])
        self.agrees([("a", "b", True), ("b", 1, True), ("a", 2, False), (1, 2, False)])

    def test_values_are_no_gaps(self):
        self.agrees([("a", 1, False), ("b", 1, False), ("a", "b", True)])
        self.agrees([("a", 0, False), ("b", "a", False), ("c", "a", False), ("b", "c", False), ("b", 1, False)])

    def test_all_lists_of_up_to_two(self):
        every = things(["a", "b", 0, 1])
        for many in range(3):
            for assumed in itertools.product(every, repeat=many):
                self.told_right(list(assumed))

    def test_many_lists(self):
        told = [self.told_right(assumed) for assumed in drawn_lists(2500, 9)]
        self.assertGreater(told.count(True), 300)
        self.assertGreater(told.count(False), 300)

    def told_right(self, assumed):
        """There is one of both, and whether a filling is: just as by the kinds of fillings."""
        wanted = can_agree(assumed)
        if wanted:
            self.agrees(assumed)
        else:
            self.clashes(assumed)
        return wanted

    def test_sixty_things(self):
        gaps = names(60)
        line = [(one, other, True) for one, other in zip(gaps, gaps[1:])]
        self.assertEqual(len(line), 59)
        self.assertEqual(len(set(self.agrees(line).values())), 1)
        self.clashes(line + [(gaps[0], gaps[-1], False)], [tuple(gaps), tuple(gaps[::-1])])
        self.clashes([(1, gaps[0], True)] + line[:58] + [(2, gaps[58], True)])
        self.assertEqual(set(self.agrees([(1, gaps[0], True)] + line).values()), {1})
        chance = random.Random(3)
        chance.shuffle(line)
        self.clashes(line + [(gaps[-1], gaps[0], False)])
        self.agrees(line + [(gaps[0], "z", False)])

    def test_sixty_things_that_are_unlike(self):
        gaps = names(120)
        self.agrees(list(zip(gaps[::2], gaps[1::2], [False] * 60)))
        few = names(11)
        filling = self.agrees([(one, other, False) for one, other in itertools.combinations(few, 2)])
        self.assertEqual(len(set(filling.values())), 11)

    def test_a_thing_that_stands_twice(self):
        self.agrees([("a", "b", True), ("b", "a", True), ("a", "b", True)])
        self.agrees([("a", 1, False), ("a", 1, False), (1, "a", False)])
        self.clashes([(1, 2, True), (2, 1, True)])

    def test_told_fillings_belong_to_whoever_asked(self):
        assumed = [("a", "b", False), ("a", 1, True)]
        told = agreeing(assumed)
        wanted = dict(told)
        told["a"] = 9
        told.clear()
        self.assertEqual(agreeing(assumed), wanted)
        agreeing([])["a"] = 1
        self.assertEqual(agreeing([]), {})

    def test_arguments_by_name(self):
        self.assertIsNone(clash(assumed=[]))
        self.assertEqual(agreeing(assumed=[("a", 1, True)]), {"a": 1})


class KnownTest(unittest.TestCase):
    def knows(self, cond, assumed, wanted):
        before = list(assumed)
        self.assertIs(known(cond, assumed), wanted)
        self.assertIs(known_by_words(cond, assumed), wanted)
        self.assertEqual(assumed, before)

    def test_a_truth_by_itself(self):
        for assumed in ([], [("a", 1, True)], [(1, 2, True)], [("a", "a", False)]):
            self.knows(YES, assumed, True)
            self.knows(NO, assumed, False)

    def test_a_same_by_nothing(self):
        self.knows(Same("a", "a"), [], True)
        self.knows(Same(3, 3), [], True)
        self.knows(Same(3, 4), [], False)
        self.knows(Same("a", 3), [], None)
        self.knows(Same(3, "a"), [], None)
        self.knows(Same("a", "b"), [], None)

    def test_a_same_of_joined_cells(self):
        assumed = [("a", "b", True), ("c", "b", True), ("c", 4, True)]
        for one, other in itertools.product(["a", "b", "c", 4], repeat=2):
            self.knows(Same(one, other), assumed, True)
        self.knows(Same("a", "d"), assumed, None)
        self.knows(Same("d", 4), assumed, None)

    def test_a_same_of_cells_that_are_joined_to_unlike_values(self):
        assumed = [("a", "b", True), ("b", 1, True), ("c", 2, True)]
        for one in ("a", "b", 1):
            for other in ("c", 2, 3):
                self.knows(Same(one, other), assumed, False)
                self.knows(Same(other, one), assumed, False)
        self.knows(Same("c", 3), assumed, False)
        self.knows(Same(3, "d"), assumed, None)

    def test_a_same_of_cells_that_are_joined_to_cells_assumed_unlike(self):
        for one, other in (("b", "c"), ("c", "b")):
            assumed = [("a", "b", True), ("d", "c", True), (one, other, False)]
            self.knows(Same("a", "d"), assumed, False)
            self.knows(Same("d", "a"), assumed, False)
            self.knows(Same("b", "c"), assumed, False)
            self.knows(Same("a", "e"), assumed, None)
            self.knows(Same("a", "b"), assumed, True)

    def test_a_gap_unlike_a_value(self):
        assumed = [("a", 1, False), ("b", 1, True), ("c", "a", True)]
        self.knows(Same("a", 1), assumed, False)
        self.knows(Same(1, "a"), assumed, False)
        self.knows(Same("c", "b"), assumed, False)
        self.knows(Same("a", 2), assumed, None)

    def test_what_only_follows_by_counting_is_open(self):
        self.knows(Same("a", "b"), [("a", 1, False), ("b", 1, False)], None)
        self.knows(Same("a", "c"), [("a", "b", False), ("b", "c", False)], None)

    def test_things_that_clash(self):
        self.knows(Same(3, 4), [(3, 4, True)], True)
        self.knows(Same(4, 3), [("a", 3, True), (4, "a", True)], True)
        self.knows(Same("a", 3), [("a", 3, True), ("a", 4, True)], True)
        self.knows(Same("a", 5), [("a", 3, True), ("a", 4, True)], False)
        self.knows(Same("a", "b"), [("a", 3, True), ("a", 4, True)], None)
        self.knows(Same("a", "a"), [("a", "a", False)], True)
        self.knows(Same(3, 3), [(3, 3, False)], True)
        self.knows(Same("a", "b"), [("a", "b", True), ("a", "b", False)], True)
        self.knows(Same("a", "c"), [("a", "b", True), ("a", "b", False)], None)
        self.knows(AllOf([Same(3, 4), Same(3, 3)]), [(4, 3, True)], True)
        self.knows(Opposite(Same(3, 4)), [(4, 3, True)], False)

    def test_all_of(self):
        for said in itertools.product([True, False, None], repeat=3):
            parts = [Same(gap, 1) for gap in "abc"]
            wanted = False if False in said else None if None in said else True
            self.knows(AllOf(parts), self.assumed(said), wanted)
        self.knows(AllOf([]), [], True)

    def test_one_of(self):
        for said in itertools.product([True, False, None], repeat=3):
            parts = [Same(gap, 1) for gap in "abc"]
            wanted = True if True in said else None if None in said else False
            self.knows(OneOf(parts), self.assumed(said), wanted)
        self.knows(OneOf([]), [], False)

    def assumed(self, said):
        """What makes the Sames of a, b and c with 1 known as told."""
        return [(gap, 1, told) for gap, told in zip("abc", said) if told is not None]

    def test_opposite(self):
        self.knows(Opposite(Same("a", 1)), [("a", 1, True)], False)
        self.knows(Opposite(Same("a", 1)), [("a", 1, False)], True)
        self.knows(Opposite(Same("a", 1)), [], None)
        self.knows(Opposite(Opposite(Same("a", 1))), [("a", 1, True)], True)
        self.knows(Opposite(Opposite(Same("a", 1))), [], None)

    def test_one_that_can_not_fail_may_be_open(self):
        same = Same("a", 1)
        self.knows(OneOf([same, Opposite(same)]), [], None)
        self.knows(AllOf([same, Opposite(same)]), [], None)
        self.knows(OneOf([Same("a", 1), Same("a", "b"), Opposite(Same("b", 1))]), [], None)

    def test_small_conditions_by_small_lists(self):
        conds = small_conds(["a", "b", 1])
        lists = [[thing] for thing in things(["a", "b", 1, 2])] + drawn_lists(20, 5)
        for place, cond in enumerate(conds):
            for assumed in lists[place % 4::4]:
                self.assertIs(known(cond, assumed), known_by_words(cond, assumed), (cond, assumed))

    def test_larger_conditions_by_larger_lists(self):
        told = []
        for cond, assumed in zip(drawn_conds(1500), drawn_lists(1500, 8)):
            said = known(cond, assumed)
            self.assertIs(said, known_by_words(cond, assumed))
            told.append(said)
        for said in (True, False, None):
            self.assertGreater(told.count(said), 100)

    def test_so_at_each_filling_that_agrees(self):
        for cond, assumed in zip(drawn_conds(300, 5), drawn_lists(300, 4)):
            said = known(cond, assumed)
            cells = cells_of(assumed)
            gaps = sorted(set(cond.gaps()) | {cell for cell in cells if isinstance(cell, str)})
            values = sorted(set(cond.standing()) | {cell for cell in cells if not isinstance(cell, str)})
            if said is None or len(gaps) > 3 or len(values) > 5:
                continue
            for filling in kinds(gaps, values):
                if agrees(filling, assumed):
                    self.assertIs(cond.truth(filling), said)

    def test_twenty_one_within_another(self):
        for layers in range(20):
            turned = len([number for number in range(layers) if number % 4 in (0, 3)]) % 2 == 1
            cond = layered(Same("a", "b"), layers)
            self.assertIs(known(cond, [("a", "b", True)]), not turned)
            self.assertIs(known(cond, [("a", 1, True), (2, "b", True)]), turned)
            self.assertIsNone(known(cond, [("a", 1, True)]))

    def test_many_places_without_an_atom(self):
        cond = YES
        for layer in range(18):
            cond = [AllOf([cond, cond]), OneOf([cond, cond])][layer % 2]
        for number in range(100):
            self.assertIs(known(OneOf([cond, Same("a", number)]), [("a", 1, False)]), True)
            self.assertIs(known(AllOf([cond, Same("a", number)]), [("a", number, False)]), False)

    def test_two_hundred_atoms_by_sixty_things(self):
        gaps = names(61)
        assumed = [(one, other, True) for one, other in zip(gaps, gaps[1:])]
        cond = AllOf([Same(gaps[number % 61], gaps[number * 7 % 61]) for number in range(200)])
        self.assertIs(known(cond, assumed), True)
        self.assertIsNone(known(cond, assumed[:30] + assumed[31:]))
        self.assertIs(known(Opposite(OneOf([cond, Same(gaps[0], "z")])), assumed), False)

    def test_the_condition_stays(self):
        cond = OneOf([Same("a", 1), AllOf([Same("b", "a"), YES])])
        parts = cond.parts
        known(cond, [("b", "a", True), ("a", 1, False)])
        self.assertEqual(cond.parts, parts)
        self.assertEqual((cond.gaps(), cond.standing(), cond.atoms()), (["a", "b"], [1], 2))

    def test_arguments_by_name(self):
        self.assertIs(known(cond=Same("a", 1), assumed=[("a", 1, True)]), True)


if __name__ == "__main__":
    unittest.main()
