"""Asks of two tables: crossed, joined, together, less."""

import random
import unittest

from maybetables.conds import AllOf, OneOf, Opposite, Same, Truth
from maybetables.errors import TooMany, Twice, Unlike
from maybetables.pairing import crossed, joined, less, together
from maybetables.tables import Table
from tests.samples import (HIGH, deep, drawn_table, layered, refused, some_fillings, table_shape, told_within,
                           values_by)

YES, NO = Truth(True), Truth(False)


def left_table():
    """Two columns, three rows, and a whole."""
    return Table(["x", "y"], [(["a", 1], YES), ([2, "b"], Same("c", 3)), (["a", "b"], Opposite(Same("c", 3)))],
                 OneOf([Same("a", 2), Same("c", 3)]))


def right_table():
    """The same columns in another order, two rows, gaps of left_table and one besides, and a whole."""
    return Table(["y", "x"], [(["b", "a"], Same("d", "a")), ([1, 2], YES)], Opposite(Same("d", 1)))


def long_table(columns, rows, gap="a"):
    """A table of so many rows."""
    return Table(columns, [([number] * len(columns), Same(gap, number % 3)) for number in range(rows)])


def row_by_names(columns, cells):
    """A row as a dict from columns to cells."""
    return dict(zip(columns, cells))


class PairTest(unittest.TestCase):
    def fillings(self, one, other):
        return some_fillings(one.gaps() + other.gaps(), one.standing() + other.standing())

    def told_right(self, told, one, other, columns, rows, plain):
        """rows: for each row that is meant its cells, what it is made of, Sames, and whether it holds at a filling.

        plain: the plain ask, of two lists of rows as dicts by columns. Told is how often a row was there.
        """
        self.assertIsInstance(told, Table)
        self.assertEqual(told.columns(), columns)
        self.assertEqual([cells for cells, cond in told.rows()], [tuple(row[0]) for row in rows])
        told_within(self, told.whole(), [one.whole(), other.whole()], [one, other])
        for (cells, cond), (meant, made_of, sames, holds) in zip(told.rows(), rows):
            told_within(self, cond, made_of, [one, other], (), sames)
        there = 0
        for filling in self.fillings(one, other):
            wholes = one.whole().truth(filling) and other.whole().truth(filling)
            self.assertIs(told.whole().truth(filling), wholes)
            for (cells, cond), (meant, made_of, sames, holds) in zip(told.rows(), rows):
                self.assertIs(cond.truth(filling), holds(filling))
                there += holds(filling)
            if wholes:
                lefts = [row_by_names(one.columns(), row) for row in one.filled(filling)]
                rights = [row_by_names(other.columns(), row) for row in other.filled(filling)]
                made = sorted({tuple(row[name] for name in columns) for row in plain(lefts, rights)})
                self.assertEqual(told.filled(filling), made)
            else:
                self.assertIsNone(told.filled(filling))
        return there

    def joined_right(self, ask, one, other):
        """What 21 and 22 say of two tables that are not refused."""
        shared = [name for name in one.columns() if name in other.columns()]
        further = [name for name in other.columns() if name not in one.columns()]
        rows = []
        for cells, cond in one.rows():
            for others, second in other.rows():
                left, right = row_by_names(one.columns(), cells), row_by_names(other.columns(), others)

                def holds(filling, cond=cond, second=second, left=left, right=right):
                    alike = (values_by([left[name]], filling) == values_by([right[name]], filling) for name in shared)
                    return cond.truth(filling) and second.truth(filling) and all(alike)
                rows.append((list(cells) + [right[name] for name in further], [cond, second], len(shared), holds))

        def plain(lefts, rights):
            return [dict(right, **left) for left in lefts for right in rights
                    if all(left[name] == right[name] for name in shared)]
        return self.told_right(ask(one, other), one, other, one.columns() + further, rows, plain)

    def together_right(self, one, other):
        rows = [(cells, [cond], 0, cond.truth) for cells, cond in one.rows()]
        for cells, cond in other.rows():
            row = row_by_names(other.columns(), cells)
            rows.append(([row[name] for name in one.columns()], [cond], 0, cond.truth))
        return self.told_right(together(one, other), one, other, one.columns(), rows, lambda left, right: left + right)

    def less_right(self, one, other):
        rows = []
        for cells, cond in one.rows():
            def holds(filling, cells=cells, cond=cond):
                here = row_by_names(one.columns(), values_by(cells, filling))
                there = [row_by_names(other.columns(), values_by(others, filling))
                         for others, second in other.rows() if second.truth(filling)]
                return cond.truth(filling) and here not in there
            sames = len(other.rows()) * len(one.columns())
            rows.append((cells, [cond] + [second for others, second in other.rows()], sames, holds))

        def plain(lefts, rights):
            return [left for left in lefts if left not in rights]
        return self.told_right(less(one, other), one, other, one.columns(), rows, plain)

    def drawn_pairs(self, many, seed, names, others):
        """Pairs of tables of a few rows that have gaps in common, with columns that two functions draw."""
        chance = random.Random(seed)
        told = []
        for number in range(many):
            columns = names(chance)
            one = drawn_table(chance, columns, chance.randint(0, 4), ["a", "b"], [0, 1])
            columns = others(chance, columns)
            told.append((one, drawn_table(chance, columns, chance.randint(0, 4), ["b", "a", "c"], [1, 0])))
        return told


def some_names(chance):
    return chance.sample(["x", "y", "a"], chance.randint(0, 3))


def shuffled(chance, columns):
    return chance.sample(columns, len(columns))


class CrossedTest(PairTest):
    def test_columns_and_rows_in_their_order(self):
        one = Table(["y", "x"], [([1, 2], YES), (["a", 3], Same("b", 1)), ([1, 2], YES)])
        other = Table(["w", "z"], [([5, "a"], YES), ([4, 4], Same("c", 1))])
        told = crossed(one, other)
        self.assertEqual(told.columns(), ["y", "x", "w", "z"])
        self.assertEqual([cells for cells, cond in told.rows()],
                         [(1, 2, 5, "a"), (1, 2, 4, 4), ("a", 3, 5, "a"), ("a", 3, 4, 4), (1, 2, 5, "a"), (1, 2, 4, 4)])
        self.assertEqual(told.filled({"a": 0, "b": 1, "c": 0}), [(0, 3, 5, 0), (1, 2, 5, 0)])
        self.assertEqual(told.filled({"a": 0, "b": 0, "c": 1}), [(1, 2, 4, 4), (1, 2, 5, 0)])
        self.joined_right(crossed, one, other)

    def test_both_wholes(self):
        told = crossed(Table(["x"], [([1], YES)], Same("a", 1)), Table(["y"], [([2], YES)], Same("b", 2)))
        self.assertEqual(told.filled({"a": 1, "b": 2}), [(1, 2)])
        for filling in ({"a": 0, "b": 2}, {"a": 1, "b": 1}, {"a": 2, "b": 1}):
            self.assertIsNone(told.filled(filling))

    def test_a_gap_of_both_is_one_gap(self):
        told = crossed(Table(["x"], [(["a"], YES)]), Table(["y"], [(["a"], Same("a", 1))]))
        self.assertEqual(told.gaps(), ["a"])
        self.assertEqual((told.filled({"a": 1}), told.filled({"a": 2})), ([(1, 1)], []))

    def test_of_no_columns_and_no_rows(self):
        unit, empty = Table([], [([], Same("a", 1))]), Table([], [], Same("b", 1))
        some = Table(["x"], [([1], YES), ([2], Same("a", 2))])
        for one, other in ((unit, some), (some, unit), (empty, some), (some, empty), (unit, unit), (empty, unit),
                           (Table(["y"], []), some)):
            self.joined_right(crossed, one, other)
        self.assertEqual(crossed(unit, some).filled({"a": 1}), [(1,)])
        self.assertEqual(crossed(some, empty).rows(), [])

    def test_a_column_of_both(self):
        self.assertEqual(refused(self, Twice, crossed, Table(["x"], []), Table(["x"], [])).name, "x")
        self.assertEqual(refused(self, Twice, crossed, Table(["z", "x"], []), Table(["w", "z"], [])).name, "z")
        self.assertEqual(refused(self, Twice, crossed, left_table(), left_table()).name, "x")

    def test_the_first_such_by_name(self):
        one, other = Table(["z", "c", "b", "a"], []), Table(["c", "y", "b"], [])
        self.assertEqual(refused(self, Twice, crossed, one, other).name, "b")
        self.assertEqual(refused(self, Twice, crossed, other, one).name, "b")
        self.assertEqual(refused(self, Twice, crossed, Table(["b", "aa"], []), Table(["aa", "b"], [])).name, "aa")

    def test_twenty_four_rows_and_more(self):
        for first, second in ((24, 1), (1, 24), (4, 6), (8, 3), (25, 0), (0, 30)):
            told = crossed(long_table(["x"], first), long_table(["y"], second))
            self.assertEqual(len(told.rows()), first * second)
        for first, second in ((25, 1), (1, 25), (5, 5), (24, 24), (13, 2)):
            refused(self, TooMany, crossed, long_table(["x"], first), long_table(["y"], second))

    def test_rows_that_are_never_there_count_too(self):
        refused(self, TooMany, crossed, Table(["x"], [([1], NO)] * 5), Table(["y"], [([1], NO)] * 5))

    def test_twice_ahead_of_too_many(self):
        refused(self, Twice, crossed, long_table(["x"], 24), long_table(["x"], 24))

    def test_sixteen_columns(self):
        one = Table(["a" + chr(97 + place) for place in range(8)], [(["a"] * 8, YES)] * 4)
        other = Table(["b" + chr(97 + place) for place in range(8)], [(list(range(8)), Same("a", 1))] * 6)
        self.joined_right(crossed, one, other)

    def test_just_as_the_words_say(self):
        there = 0
        for one, other in self.drawn_pairs(120, 1, some_names, lambda chance, columns: chance.sample(["v", "w"], 1)):
            there += self.joined_right(crossed, one, other)
        self.assertGreater(there, 1000)

    def test_arguments_by_name(self):
        told = crossed(one=Table(["x"], [([1], YES)]), other=Table(["y"], [([2], YES)]))
        self.assertEqual((told.columns(), told.filled({})), (["x", "y"], [(1, 2)]))


class JoinedTest(PairTest):
    def test_columns_and_rows_in_their_order(self):
        one = Table(["y", "x"], [([1, "a"], YES), (["b", 3], Same("b", 1))])
        other = Table(["z", "x", "w"], [([5, 3, "a"], YES), ([4, "b", 4], Same("c", 1)), ([0, 2, 0], YES)])
        told = joined(one, other)
        self.assertEqual(told.columns(), ["y", "x", "z", "w"])
        self.assertEqual([cells for cells, cond in told.rows()],
                         [(1, "a", 5, "a"), (1, "a", 4, 4), (1, "a", 0, 0),
                          ("b", 3, 5, "a"), ("b", 3, 4, 4), ("b", 3, 0, 0)])
        self.assertEqual(told.filled({"a": 3, "b": 1, "c": 1}), [(1, 3, 5, 3)])
        self.assertEqual(told.filled({"a": 2, "b": 2, "c": 1}), [(1, 2, 0, 0), (1, 2, 4, 4)])
        self.joined_right(joined, one, other)

    def test_in_each_column_of_both(self):
        told = joined(left_table(), right_table())
        self.assertEqual(told.columns(), ["x", "y"])
        self.assertEqual([cells for cells, cond in told.rows()],
                         [("a", 1), ("a", 1), (2, "b"), (2, "b"), ("a", "b"), ("a", "b")])
        self.assertEqual(told.filled({"a": 2, "b": 1, "c": 3, "d": 0}), [(2, 1)])
        self.assertEqual(told.filled({"a": 4, "b": 5, "c": 3, "d": 4}), [])
        self.assertEqual(told.filled({"a": 2, "b": 5, "c": 0, "d": 2}), [(2, 1), (2, 5)])
        self.assertIsNone(told.filled({"a": 4, "b": 5, "c": 0, "d": 4}))
        self.assertIsNone(told.filled({"a": 2, "b": 5, "c": 0, "d": 1}))
        self.joined_right(joined, left_table(), right_table())
        self.joined_right(joined, right_table(), left_table())

    def test_a_row_whose_cells_are_unlike_values_is_not_left_out(self):
        told = joined(Table(["x"], [([1], YES), ([2], YES)]), Table(["x"], [([2], YES), ([3], YES)]))
        self.assertEqual([cells for cells, cond in told.rows()], [(1,), (1,), (2,), (2,)])
        self.assertEqual(told.filled({}), [(2,)])

    def test_without_a_column_of_both(self):
        self.joined_right(joined, Table(["x"], [([1], YES), (["a"], Same("b", 1))]), Table(["y"], [(["a"], YES)] * 2))

    def test_of_no_columns_and_no_rows(self):
        unit, empty = Table([], [([], Same("a", 1))]), Table([], [], Same("b", 1))
        some = Table(["x"], [([1], YES), ([2], Same("a", 2))])
        for one, other in ((unit, some), (some, unit), (empty, some), (some, empty), (unit, unit), (empty, empty),
                           (Table(["x"], []), some)):
            self.joined_right(joined, one, other)

    def test_with_itself(self):
        self.joined_right(joined, left_table(), left_table())

    def test_twenty_four_rows_and_more(self):
        for first, second in ((24, 1), (1, 24), (4, 6), (25, 0), (0, 30)):
            told = joined(long_table(["x", "y"], first), long_table(["y", "z"], second))
            self.assertEqual(len(told.rows()), first * second)
        for first, second in ((25, 1), (1, 25), (5, 5), (24, 24)):
            refused(self, TooMany, joined, long_table(["x", "y"], first), long_table(["y", "z"], second))
            refused(self, TooMany, joined, long_table(["x"], first), long_table(["x"], second))

    def test_as_long_and_as_deep_as_may_be(self):
        columns = ["c" + chr(97 + place) for place in range(8)]
        cond = AllOf([layered(OneOf([Same("a", number % 9), Same("b", 1)]), 17) for number in range(100)])
        one = Table(columns, [(["a", "b"] * 4, cond)] * 4, cond)
        other = Table(columns[::-1], [([1, "b"] * 4, Opposite(Opposite(cond.parts[0]))), (["b", 1] * 4, YES)] * 3, cond)
        self.assertEqual((cond.atoms(), deep(cond)), (200, 20))
        self.joined_right(joined, one, other)
        self.less_right(one, other)
        self.together_right(one, other)

    def test_just_as_the_words_say(self):
        there = 0
        for one, other in self.drawn_pairs(150, 2, some_names, lambda chance, columns: some_names(chance)):
            there += self.joined_right(joined, one, other)
        self.assertGreater(there, 1000)

    def test_arguments_by_name(self):
        told = joined(one=Table(["x"], [([1], YES)]), other=Table(["y", "x"], [([2, 1], YES)]))
        self.assertEqual((told.columns(), told.filled({})), (["x", "y"], [(1, 2)]))


class LikeTest(PairTest):
    """What together and less have in common."""

    def test_other_columns(self):
        for ask in (together, less):
            for columns, others in ((["x"], ["y"]), (["x"], []), ([], ["x"]), (["x"], ["x", "y"]), (["y", "x"], ["x"]),
                                    (["x", "y"], ["x", "z"])):
                refused(self, Unlike, ask, Table(columns, []), Table(others, []))
                refused(self, Unlike, ask, long_table(columns, 2), long_table(others, 2))

    def test_in_whatever_order(self):
        for ask in (together, less):
            for others in (["x", "y", "z"], ["z", "y", "x"], ["y", "z", "x"]):
                self.assertEqual(ask(Table(["x", "y", "z"], []), Table(others, [])).columns(), ["x", "y", "z"])

    def test_what_is_handed_in_stays(self):
        for ask in (together, less, joined):
            one, other = left_table(), right_table()
            told = ask(one, other)
            told.columns().append("w")
            told.rows().clear()
            self.assertEqual(table_shape(one), table_shape(left_table()))
            self.assertEqual(table_shape(other), table_shape(right_table()))
            self.assertEqual(told.columns(), ["x", "y"])
            self.assertGreater(len(told.rows()), 2)

    def test_handed_on(self):
        one, other = left_table(), right_table()
        told = less(together(one, other), joined(one, other))
        for filling in self.fillings(one, other):
            left = one.filled(filling)
            right = other.filled(filling)
            if left is None or right is None:
                self.assertIsNone(told.filled(filling))
            else:
                self.assertEqual(told.filled(filling), sorted(set(left) ^ {(x, y) for y, x in right}))

    def test_values_of_sixty_figures(self):
        one, other = Table(["x"], [([HIGH], YES), (["a"], YES)]), Table(["x"], [([-HIGH], YES)])
        self.assertEqual(together(one, other).filled({"a": 0}), [(-HIGH,), (0,), (HIGH,)])
        self.assertEqual(less(one, other).filled({"a": -HIGH}), [(HIGH,)])


class TogetherTest(PairTest):
    def test_rows_in_their_order(self):
        told = together(left_table(), right_table())
        self.assertEqual(told.columns(), ["x", "y"])
        self.assertEqual([cells for cells, cond in told.rows()], [("a", 1), (2, "b"), ("a", "b"), ("a", "b"), (2, 1)])
        self.assertEqual(told.filled({"a": 2, "b": 5, "c": 3, "d": 2}), [(2, 1), (2, 5)])
        self.assertEqual(told.filled({"a": 4, "b": 5, "c": 3, "d": 4}), [(2, 1), (2, 5), (4, 1), (4, 5)])
        self.assertIsNone(told.filled({"a": 2, "b": 5, "c": 3, "d": 1}))
        self.together_right(left_table(), right_table())
        self.together_right(right_table(), left_table())

    def test_of_no_columns_and_no_rows(self):
        unit, empty = Table([], [([], Same("a", 1))]), Table([], [], Same("b", 1))
        for one in (unit, empty):
            for other in (unit, empty):
                self.together_right(one, other)
        self.together_right(Table(["x"], []), Table(["x"], [(["a"], Same("b", 1))]))

    def test_twenty_four_rows_and_more(self):
        for first, second in ((12, 12), (24, 0), (0, 24), (1, 23)):
            self.assertEqual(len(together(long_table(["x"], first), long_table(["x"], second)).rows()), 24)
        for first, second in ((12, 13), (24, 1), (1, 24), (25, 0), (0, 25)):
            refused(self, TooMany, together, long_table(["x"], first), long_table(["x"], second))

    def test_unlike_ahead_of_too_many(self):
        refused(self, Unlike, together, long_table(["x"], 20), long_table(["y"], 20))

    def test_just_as_the_words_say(self):
        there = 0
        for one, other in self.drawn_pairs(120, 3, some_names, shuffled):
            there += self.together_right(one, other)
        self.assertGreater(there, 1000)

    def test_arguments_by_name(self):
        self.assertEqual(together(one=Table(["x"], [([2], YES)]), other=Table(["x"], [([1], YES)])).rows()[0][0], (2,))


class LessTest(PairTest):
    def test_rows_in_their_order(self):
        told = less(left_table(), right_table())
        self.assertEqual(told.columns(), ["x", "y"])
        self.assertEqual([cells for cells, cond in told.rows()], [("a", 1), (2, "b"), ("a", "b")])
        self.assertEqual(told.filled({"a": 2, "b": 5, "c": 3, "d": 0}), [(2, 5)])
        self.assertEqual(told.filled({"a": 2, "b": 5, "c": 3, "d": 2}), [])
        self.assertEqual(told.filled({"a": 4, "b": 5, "c": 3, "d": 0}), [(2, 5), (4, 1)])
        self.assertIsNone(told.filled({"a": 4, "b": 5, "c": 3, "d": 1}))
        self.less_right(left_table(), right_table())
        self.less_right(right_table(), left_table())

    def test_each_in_the_column_of_the_same_name(self):
        one, other = Table(["x", "y"], [([1, 2], YES), ([2, 1], YES)]), Table(["y", "x"], [([2, 1], YES)])
        self.assertEqual(less(one, other).filled({}), [(2, 1)])
        self.assertEqual(less(other, one).filled({}), [])

    def test_a_row_that_is_not_there_takes_none_away(self):
        one = Table(["x"], [([1], YES), (["a"], YES)])
        self.assertEqual(less(one, Table(["x"], [([1], NO)])).filled({"a": 2}), [(1,), (2,)])
        self.assertEqual(less(one, Table(["x"], [([1], Same("a", 3))])).filled({"a": 2}), [(1,), (2,)])
        self.assertEqual(less(one, Table(["x"], [([1], Same("a", 3))])).filled({"a": 3}), [(3,)])
        self.assertEqual(less(one, Table(["x"], [])).filled({"a": 1}), [(1,)])

    def test_with_itself(self):
        told = less(left_table(), left_table())
        for filling in self.fillings(told, left_table()):
            self.assertIn(told.filled(filling), ([], None))
        self.less_right(left_table(), left_table())

    def test_of_no_columns_and_no_rows(self):
        unit, empty = Table([], [([], Same("a", 1))]), Table([], [], Same("b", 1))
        for one in (unit, empty):
            for other in (unit, empty, Table([], [([], YES), ([], Same("c", 1))])):
                self.less_right(one, other)

    def test_of_more_than_twenty_four_rows(self):
        self.assertEqual(len(less(long_table(["x"], 24), long_table(["x"], 24)).rows()), 24)
        self.assertEqual(less(long_table(["x"], 26), long_table(["x"], 25)).filled({"a": 1}), [(25,)])

    def test_twenty_four_rows_of_eight_columns(self):
        columns = ["c" + chr(97 + place) for place in range(8)]
        one = Table(columns, [(["a", number, "b", 1, "a", "b", "a", 0], Same("b", number % 2)) for number in range(24)])
        other = Table(columns[::-1], [([0, "a", "b", "c", 1, "b", number, "a"], YES) for number in range(24)])
        self.less_right(one, other)

    def test_just_as_the_words_say(self):
        there = 0
        for one, other in self.drawn_pairs(150, 4, some_names, shuffled):
            there += self.less_right(one, other)
        self.assertGreater(there, 1000)

    def test_arguments_by_name(self):
        told = less(one=Table(["x"], [([2], YES), ([1], YES)]), other=Table(["x"], [([1], YES)]))
        self.assertEqual(told.filled({}), [(2,)])


if __name__ == "__main__":
    unittest.main()
