"""Whether two tables have the same lists."""

import random
import unittest

from maybetables.choosing import narrowed
from maybetables.conds import AllOf, OneOf, Opposite, Same, Truth
from maybetables.errors import TooMany, Unlike
from maybetables.fillings import bound, kinds
from maybetables.lists import same_lists
from maybetables.rules import Key, Leads, ruled
from maybetables.tables import Table
from tests.samples import (HIGH, drawn_table, every_filling, filled_by_words, filling_right, in_order, layered,
                           paper_right, refused, retold, spoiled, table_shape)

YES, NO = Truth(True), Truth(False)


def list_at(table, columns, filling):
    """The filled list at a filling, with the columns in this order; None where the whole fails."""
    rows = filled_by_words(table, filling)
    return None if rows is None else sorted(in_order(table.columns(), columns, row) for row in rows)


def brought(table, columns, row):
    """That a table brings a row of these columns, by the words of 25."""
    rows = [(in_order(table.columns(), columns, cells), cond) for cells, cond in table.rows()]
    return OneOf([AllOf([cond] + [Same(cell, value) for cell, value in zip(cells, row)]) for cells, cond in rows])


def filled_so(table, columns, rows):
    """The condition that a table is filled to this list, by the words of 32."""
    parts = [table.whole()] + [brought(table, columns, row) for row in rows]
    for cells, cond in table.rows():
        own = in_order(table.columns(), columns, cells)
        parts.append(OneOf([Opposite(cond)] + [AllOf([Same(cell, value) for cell, value in zip(own, row)])
                                               for row in rows]))
    return AllOf(parts)


def values_of(one, other):
    return sorted(set(one.standing() + other.standing()))


def lone_by_words(one, other):
    """The sides of which some list is none of the other side's, one filling after another."""
    # Values enough that what is fresh in a filling of either may be a value that no gap of the other has.
    further = len(one.gaps()) + len(other.gaps())
    lists = [{str(list_at(table, one.columns(), filling))
              for filling in every_filling(table.gaps(), values_of(one, other), further)
              if table.whole().truth(filling)} for table in (one, other)]
    return [side for side in (0, 1) if lists[side] - lists[1 - side]]


class SameListsTest(unittest.TestCase):
    def pairs_right(self, pairs, first, second, columns, values):
        """Asks what 32 says of pairs, or of backs."""
        self.assertIs(type(pairs), list)
        meant = [filling for filling in kinds(first.gaps(), values) if first.whole().truth(filling)]
        self.assertEqual([pair[0] for pair in pairs], meant)
        for pair in pairs:
            self.assertIs(type(pair), tuple)
            self.assertEqual(len(pair), 2)
            filling_right(self, pair[0], first.gaps())
            filling_right(self, pair[1], second.gaps())
            self.assertIsNotNone(list_at(first, columns, pair[0]))
            self.assertEqual(list_at(first, columns, pair[0]), list_at(second, columns, pair[1]))

    def parted_right(self, told, one, other):
        """Asks what 32 says of two tables that are parted."""
        side, filling, paper = told
        self.assertIs(type(side), int)
        first, second = ((one, other), (other, one))[side]
        filling_right(self, filling, first.gaps())
        self.assertIn(filling, kinds(first.gaps(), values_of(one, other)))
        rows = list_at(first, one.columns(), filling)
        self.assertIsNotNone(rows)
        paper_right(self, Opposite(filled_so(second, one.columns(), rows)), paper)

    def told_right(self, one, other):
        """None where two tables are told to have the same lists, else the side, when all that is told is right."""
        before = table_shape(one), table_shape(other)
        told = same_lists(one, other)
        self.assertIs(type(told), tuple)
        self.assertEqual((table_shape(one), table_shape(other)), before)
        if told[0] == "same":
            self.assertEqual(len(told), 3)
            self.pairs_right(told[1], one, other, one.columns(), values_of(one, other))
            self.pairs_right(told[2], other, one, one.columns(), values_of(one, other))
            return None
        self.assertEqual((told[0], len(told)), ("parted", 4))
        self.parted_right(told[1:], one, other)
        return told[1]

    def as_meant(self, one, other):
        """As told_right, both ways about, and as the words say one filling after another."""
        lone = lone_by_words(one, other)
        self.assertEqual(self.told_right(one, other), min(lone, default=None))
        self.assertEqual(self.told_right(other, one), min([1 - side for side in lone], default=None))
        return lone

    def same(self, one, other):
        self.assertEqual(self.as_meant(one, other), [])

    def parted(self, sides, one, other):
        self.assertEqual(self.as_meant(one, other), sides)

    def test_without_gaps(self):
        one = Table(["x", "y"], [([1, 2], YES), ([3, 4], YES)])
        self.same(one, Table(["x", "y"], [([3, 4], YES), ([1, 2], YES), ([1, 2], YES), ([5, 6], NO)]))
        self.assertEqual(same_lists(one, one), ("same", [({}, {})], [({}, {})]))
        self.parted([0, 1], one, Table(["x", "y"], [([3, 4], YES)]))
        self.parted([0, 1], Table(["x"], []), Table(["x"], [([1], YES)]))
        self.assertEqual(same_lists(one, Table(["x", "y"], []))[:3], ("parted", 0, {}))

    def test_pairs_and_backs_in_the_kinds_order(self):
        one, other = Table(["x"], [(["b"], YES), (["a"], YES)]), Table(["x"], [(["c"], YES), (["d"], YES)])
        said, pairs, backs = same_lists(one, other)
        self.assertEqual([pair[0] for pair in pairs], [{"a": 0, "b": 0}, {"a": 0, "b": 1}])
        self.assertEqual(pairs[0][1], {"c": 0, "d": 0})
        self.assertIn(pairs[1][1], ({"c": 0, "d": 1}, {"c": 1, "d": 0}))
        self.assertEqual([back[0] for back in backs], [{"c": 0, "d": 0}, {"c": 0, "d": 1}])
        self.same(one, other)

    def test_kinds_over_the_values_of_both(self):
        one = Table(["x"], [(["a"], YES), ([5], NO)])
        other = Table(["x"], [(["b"], YES), ([0], NO)])
        said, pairs, backs = same_lists(one, other)
        self.assertEqual(pairs, [({"a": 0}, {"b": 0}), ({"a": 5}, {"b": 5}), ({"a": 1}, {"b": 1})])
        self.assertEqual(backs, [({"b": 0}, {"a": 0}), ({"b": 5}, {"a": 5}), ({"b": 1}, {"a": 1})])
        self.same(one, other)

    def test_only_where_the_whole_holds(self):
        one = Table(["x"], [(["a"], YES)], Opposite(Same("a", 5)))
        other = Table(["x"], [(["b"], YES)], AllOf([Opposite(Same("b", 5)), Same("c", 1)]))
        said, pairs, backs = same_lists(one, other)
        self.assertEqual(pairs, [({"a": 1}, {"b": 1, "c": 1}), ({"a": 0}, {"b": 0, "c": 1})])
        self.assertEqual(backs, [({"b": 1, "c": 1}, {"a": 1}), ({"b": 0, "c": 1}, {"a": 0})])
        self.same(one, other)

    def test_gaps_that_have_the_same_names_are_not_one(self):
        one = Table(["x", "y"], [(["a", "b"], YES)])
        other = Table(["x", "y"], [(["b", "a"], YES)])
        self.same(one, other)
        for pair in same_lists(one, other)[1]:
            self.assertEqual(pair[1], {"a": pair[0]["b"], "b": pair[0]["a"]})
        self.same(Table(["x"], [(["a"], YES)], Opposite(Same("a", 1))),
                  Table(["x"], [(["b"], YES)], AllOf([Opposite(Same("b", 1)), Same("a", 1)])))
        self.same(Table(["x"], [([1], Same("a", 1))]), Table(["x"], [([1], Opposite(Same("a", 1)))]))

    def test_columns_in_another_order(self):
        one, other = Table(["x", "y"], [([1, "a"], YES)]), Table(["y", "x"], [(["a", 1], YES)])
        self.same(one, other)
        self.parted([0, 1], one, Table(["y", "x"], [([1, "a"], YES)]))
        self.same(Table(["z", "x", "y"], [([1, "a", 2], YES), (["b", 0, 0], YES)]),
                  Table(["y", "z", "x"], [([0, "a", 0], YES), ([2, 1, "b"], YES)]))
        self.parted([0, 1], Table(["x", "y", "z"], [([1, "a", 2], YES)]), Table(["z", "x", "y"], [([1, 2, "a"], YES)]))

    def test_the_lists_of_the_one_among_more(self):
        one, other = Table(["x"], [(["a"], YES)]), Table(["x"], [(["a"], YES), (["b"], YES)])
        self.parted([1], one, other)
        self.parted([0], other, one)
        self.parted([0], Table(["x"], [(["a"], YES)]), Table(["x"], [([7], YES)]))
        self.parted([1], Table(["x"], [(["a"], YES)], Same("a", 7)), Table(["x"], [(["a"], YES)]))

    def test_the_one_is_told_first(self):
        one, other = Table(["x"], [(["a"], YES)], Opposite(Same("a", 1))), Table(["x"], [(["b"], YES)], Same("b", 1))
        self.parted([0, 1], one, other)
        self.assertEqual((same_lists(one, other)[1], same_lists(other, one)[1]), (0, 0))
        self.assertIn(same_lists(one, other)[2], ({"a": 0},))
        self.assertEqual(same_lists(other, one)[2], {"b": 1})

    def test_what_only_two_gaps_can_be(self):
        one = Table(["x"], [(["a"], YES), (["b"], YES)], Opposite(Same("a", "b")))
        self.parted([1], one, Table(["x"], [(["a"], YES), (["b"], YES)]))
        self.same(one, Table(["x"], [(["c"], YES), (["d"], YES)], Opposite(Same("d", "c"))))
        self.parted([0], Table(["x", "y"], [(["a", "b"], YES)]), Table(["x", "y"], [(["a", "a"], YES)]))

    def test_a_fresh_value_of_the_one_is_any_value_of_the_other(self):
        one = Table(["x", "y"], [(["a", 1], YES), (["b", 2], YES)])
        other = Table(["x", "y"], [(["c", 1], YES), (["d", 2], YES)], OneOf([YES, Same("c", 3)]))
        self.same(one, other)
        self.parted([0], one, Table(["x", "y"], other.rows(), Opposite(Same("c", 3))))
        self.parted([0], one, Table(["x", "y"], other.rows(), Opposite(Same("c", "d"))))

    def test_where_no_filling_keeps_a_whole(self):
        never = Table(["x"], [(["b"], YES)], AllOf([Same("a", 1), Same("a", 2)]))
        self.same(never, Table(["x"], [([7], YES)], NO))
        self.assertEqual(same_lists(never, Table(["x"], [], NO)), ("same", [], []))
        self.parted([1], never, Table(["x"], [(["b"], YES)]))
        self.parted([0], Table(["x"], []), never)
        self.parted([0], Table([], []), Table([], [], NO))

    def test_no_rows_is_a_list(self):
        self.same(Table(["x"], [], Same("a", 1)), Table(["x"], [(["b"], NO)]))
        self.parted([0], Table(["x"], [([1], Same("a", 1))]), Table(["x"], []))
        self.parted([1], Table(["x"], [([1], YES)]), Table(["x"], [([1], Same("a", 1))]))

    def test_of_no_columns(self):
        self.same(Table([], [([], Same("a", 1))]), Table([], [([], Same("a", "b"))]))
        self.parted([0], Table([], [([], Same("a", 1))]), Table([], [([], YES)]))
        self.parted([1], Table([], []), Table([], [([], Same("a", 1))]))
        self.same(Table([], []), Table([], []))

    def test_gaps_that_do_not_matter(self):
        one = Table(["x"], [(["a"], NO), ([1], OneOf([YES, Same("c", 1)]))])
        self.same(one, Table(["x"], [([1], YES)]))
        self.same(one, Table(["x"], [([1], Same("d", "d"))]))
        self.parted([0, 1], one, Table(["x"], [([2], Same("d", "d"))]))

    def test_a_gap_called_like_a_column(self):
        self.same(Table(["a", "b"], [(["b", "a"], YES)]), Table(["b", "a"], [(["b", "a"], YES)]))
        self.parted([0], Table(["a", "b"], [(["b", 1], YES)]), Table(["b", "a"], [([1, 1], YES)]))

    def test_other_columns(self):
        for columns, others in ((["x"], ["y"]), (["x"], []), ([], ["x"]), (["x", "y"], ["x"]), (["y"], ["x", "y"]),
                                (["x", "y"], ["y", "z"])):
            refused(self, Unlike, same_lists, Table(columns, []), Table(others, []))
            refused(self, Unlike, same_lists, Table(columns, [], NO), Table(others, [], NO))

    def test_unlike_ahead_of_too_many(self):
        rows = [([gap], YES) for gap in "abcdefg"]
        refused(self, Unlike, same_lists, Table(["x"], rows), Table(["y"], rows))

    def rows_of(self, gaps, values):
        return Table(["x"], [([cell], YES) for cell in list(gaps) + list(values)])

    def test_too_many(self):
        """The bounds of gaps beside the values of both and the other's gaps."""
        for gaps, others, values in (("ab", "ab", 28), ("abc", "abc", 5), ("abcd", "a", 2), ("abcde", "", 1),
                                     ("abc", "ab", 6), ("abcdef", "", 0)):
            first = bound(len(gaps), values + len(others)), bound(len(others), values + len(gaps))
            self.assertLessEqual(max(first), 1000)
            after = bound(len(gaps), values + 1 + len(others)), bound(len(others), values + 1 + len(gaps))
            self.assertGreater(max(after), 1000)
            one, other = self.rows_of(gaps, range(values)), self.rows_of(others, range(values))
            self.told_right(one, other)
            self.told_right(other, one)
            for more in (self.rows_of(others, range(values + 1)), self.rows_of(others, range(-1, values))):
                refused(self, TooMany, same_lists, one, more)
                refused(self, TooMany, same_lists, more, one)
                refused(self, TooMany, same_lists, one, Table(["x"], more.rows(), NO))

    def test_each_of_the_two_bounds(self):
        self.assertEqual((bound(1, 6), bound(5, 2)), (7, 2520))
        one, other = self.rows_of("a", [0]), self.rows_of("abcde", [0])
        refused(self, TooMany, same_lists, one, other)
        refused(self, TooMany, same_lists, other, one)
        self.assertEqual(self.told_right(self.rows_of("", [0]), other), 1)

    def test_the_values_of_both(self):
        self.assertEqual((bound(2, 30), bound(2, 31)), (992, 1056))
        one = self.rows_of("ab", range(10))
        self.told_right(one, self.rows_of("ab", range(10, 28)))
        self.told_right(one, self.rows_of("ab", range(28)))
        refused(self, TooMany, same_lists, one, self.rows_of("ab", range(10, 29)))

    def test_gaps_of_both_that_have_one_name_count_in_each(self):
        self.assertEqual((bound(4, 4), bound(3, 3)), (1680, 120))
        refused(self, TooMany, same_lists, self.rows_of("abcd", []), self.rows_of("abcd", []))
        self.same(self.rows_of("abc", []), self.rows_of("abc", []))

    def test_as_long_and_as_deep_as_may_be(self):
        cond = AllOf([layered(OneOf([Same("a", number % 8), Opposite(Same("a", number % 8))]), 16)
                      for number in range(100)])
        columns = ["c" + chr(97 + place) for place in range(8)]
        rows = [(["a", "b", place % 3, 7, 1, 2, "b", place % 5], cond) for place in range(24)]
        one = Table(columns, rows, cond)
        other = narrowed(Table(columns, rows[::-1]).put({"a": "b", "b": "a"}), columns[::-1])
        said, pairs, backs = same_lists(one, other)
        self.assertEqual((said, [pair[0] for pair in pairs]), ("same", kinds(["a", "b"], range(8))))
        for filling, match in pairs[::20] + [back[::-1] for back in backs[::20]]:
            self.assertEqual(list_at(one, columns, filling), list_at(other, columns, match))
        self.assertEqual(self.told_right(one, Table(columns, rows[:14])), 0)

    def test_what_ruled_tells(self):
        table = Table(["x", "y"], [([1, "a"], YES), ([1, "b"], YES)])
        self.same(ruled(table, [Key(["x"])]), Table(["x", "y"], [([1, "c"], YES)]))
        self.parted([0], table, ruled(table, [Leads(["x"], "y")]))
        columns = ["c" + chr(97 + place) for place in range(8)]
        conds = [AllOf([OneOf([Same("a", number % 3), Opposite(Same("b", number % 2 + place % 2))])
                        for number in range(100)]) for place in range(24)]
        rows = [(["a", place % 2, "b", "a", 1, 2, "b", place % 3], cond) for place, cond in enumerate(conds)]
        table = Table(columns, rows)
        told = ruled(table, [Key(["ca"]), Key(["cb", "cc"]), Leads(["ca"], "cb"), Leads(["cd", "cg"], "ch")])
        self.assertGreater(told.whole().atoms(), 100000)
        self.assertIsNone(self.told_right(told, told.put({"a": "b", "b": "c"})))
        self.assertEqual(same_lists(table, told)[:2], ("parted", 0))
        self.assertEqual(same_lists(told, table)[:2], ("parted", 1))

    def test_just_as_the_words_say(self):
        chance = random.Random(61)
        told = []
        for number in range(400):
            columns = chance.sample(["x", "y", "a"], chance.randint(0, 2))
            one = drawn_table(chance, columns, chance.randint(0, 3), ["a", "b"], [0, 1])
            other = chance.choice([one, retold(chance, one), spoiled(chance, one)]).put({"a": "b", "b": "c"})
            if chance.random() < 0.3:
                other = drawn_table(chance, columns[::-1], chance.randint(0, 3), ["b", "a"], [1, 2])
            told.append(tuple(self.as_meant(one, other)))
        for sides in ((), (0,), (1,), (0, 1)):
            self.assertGreater(told.count(sides), 10)

    def test_values_of_sixty_figures(self):
        one = Table(["x"], [(["a"], Same("a", HIGH))])
        self.same(one, Table(["x"], [([int(str(HIGH))], Same(-HIGH, "a"))]))
        self.parted([0, 1], one, Table(["x"], [([HIGH - 1], Same("a", HIGH))]))

    def test_what_is_told_belongs_to_whoever_asked(self):
        one, other = Table(["x"], [([1], Same("a", "a"))]), Table(["x"], [([1], Same("b", "b"))])
        said, pairs, backs = same_lists(one, other)
        self.assertEqual((len(pairs), len(backs)), (2, 2))
        dicts = [filling for pair in pairs + backs for filling in pair]
        for place, filling in enumerate(dicts):
            before = [dict(each) for each in dicts[place + 1:]]
            filling.clear()
            self.assertEqual(dicts[place + 1:], before)
        pairs.clear()
        self.assertEqual(len(backs), 2)
        self.assertEqual(self.told_right(one, other), None)
        same_lists(one, Table(["x"], []))[2].clear()
        self.assertEqual(sorted(same_lists(one, Table(["x"], []))[2]), ["a"])

    def test_arguments_by_name(self):
        self.assertEqual(same_lists(one=Table([], []), other=Table([], [])), ("same", [({}, {})], [({}, {})]))


if __name__ == "__main__":
    unittest.main()
