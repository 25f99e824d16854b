"""Rows that are sure, rows that may be, and the sure rows."""

import itertools
import random
import unittest

from maybetables.choosing import chosen
from maybetables.conds import AllOf, OneOf, Opposite, Same, Truth
from maybetables.errors import TooMany, Unlike
from maybetables.fillings import bound, kinds
from maybetables.pairing import less, together
from maybetables.sureness import maybe, sure, sure_rows
from maybetables.tables import Table
from tests.samples import (HIGH, drawn_tables, filled_by_words, filling_right, layered, paper_by_words, paper_right,
                           refused, table_shape)

YES, NO = Truth(True), Truth(False)
EITHER = OneOf([Same("a", 1), Opposite(Same("a", 1))])


def brought(table, row):
    """That a table brings a row, by the words of 25."""
    return OneOf([AllOf([cond] + [Same(cell, value) for cell, value in zip(cells, row)])
                  for cells, cond in table.rows()])


def rows_over(table, further=()):
    """Each row of values of the table, or of further ones, one for each column."""
    return list(itertools.product(table.standing() + list(further), repeat=len(table.columns())))


def wide_tables():
    """A table of one column, for each number of gaps with as many values as the bound of a thousand leaves.

    Each gap stands in a row's cell, and each value; the row (0,) is sure.
    """
    told = []
    for gaps, values in (("a", range(31)), ("ab", range(30)), ("abc", range(8)), ("abcd", range(3)), ("abcde", [0])):
        conds = [OneOf([Same(gap, value) for value in values if value != 0]) for gap in gaps]
        rows = [([gap], YES) for gap in gaps] + [([0], Opposite(Same(gap, 0))) for gap in gaps]
        told.append(Table(["x"], rows, OneOf(conds + [Same(gaps[0], 0), Opposite(Same(gaps[0], 0))])))
    return told


class RowTest(unittest.TestCase):
    def keeps_whole(self, table, filling):
        filling_right(self, filling, table.gaps())
        self.assertIs(table.whole().truth(filling), True)

    def is_sure(self, table, row):
        """Whether the row is told to be sure, when what is told with it is looked through."""
        told = sure(table, row)
        self.assertIs(type(told), tuple)
        self.assertEqual(len(told), 2)
        if told[0] == "sure":
            paper_right(self, OneOf([Opposite(table.whole()), brought(table, row)]), told[1])
            return True
        self.assertEqual(told[0], "lacks")
        self.keeps_whole(table, told[1])
        self.assertNotIn(row, filled_by_words(table, told[1]))
        return False

    def may_be(self, table, row):
        """Whether the row is told to be one that may be, when what is told with it is looked through."""
        told = maybe(table, row)
        self.assertIs(type(told), tuple)
        self.assertEqual(len(told), 2)
        if told[0] == "never":
            paper_right(self, Opposite(AllOf([table.whole(), brought(table, row)])), told[1])
            return False
        self.assertEqual(told[0], "may")
        self.keeps_whole(table, told[1])
        self.assertIn(row, filled_by_words(table, told[1]))
        return True

    def lists(self, table, row):
        """The filled lists at one filling of each kind that keeps the whole."""
        told = [filled_by_words(table, filling)
                for filling in kinds(table.gaps(), sorted(set(table.standing() + list(row))))]
        return [rows for rows in told if rows is not None]

    def told_right(self, table, row):
        """(whether it is sure, whether it may be), each as by the kinds of fillings."""
        lists = self.lists(table, row)
        told = (self.is_sure(table, row), self.may_be(table, row))
        self.assertEqual(told, (all(row in rows for rows in lists), any(row in rows for rows in lists)))
        return told


class SureTest(RowTest):
    def test_without_gaps(self):
        table = Table(["x", "y"], [([1, 2], YES), ([3, 4], NO)])
        self.assertEqual(self.told_right(table, (1, 2)), (True, True))
        self.assertEqual(self.told_right(table, (3, 4)), (False, False))
        self.assertEqual(self.told_right(table, (2, 1)), (False, False))
        self.assertEqual(sure(table, (3, 4)), ("lacks", {}))
        self.assertEqual(maybe(table, (1, 2)), ("may", {}))

    def test_a_row_with_a_gap(self):
        table = Table(["x", "y"], [(["a", 2], YES)])
        self.assertEqual(self.told_right(table, (1, 2)), (False, True))
        self.assertEqual(self.told_right(table, (2, 2)), (False, True))
        self.assertEqual(self.told_right(table, (1, 1)), (False, False))
        self.assertEqual(maybe(table, (7, 2)), ("may", {"a": 7}))
        self.assertEqual(maybe(table, (-HIGH, 2)), ("may", {"a": -HIGH}))

    def test_sure_by_several_rows(self):
        table = Table(["x"], [([1], Same("a", 1)), ([1], Opposite(Same("a", 1)))])
        self.assertEqual(self.told_right(table, (1,)), (True, True))
        table = Table(["x"], [(["a"], YES), ([1], Opposite(Same("a", 1)))])
        self.assertEqual(self.told_right(table, (1,)), (True, True))
        self.assertEqual(self.told_right(table, (2,)), (False, True))

    def test_sure_by_the_whole(self):
        table = Table(["x"], [(["a"], YES)], Same("a", 3))
        self.assertEqual(self.told_right(table, (3,)), (True, True))
        self.assertEqual(self.told_right(table, (4,)), (False, False))
        table = Table(["x"], [(["a"], Same("b", 1)), (["b"], Same("a", 1))], OneOf([Same("a", "b"), Same("a", 2)]))
        for row in ((1,), (2,), (3,)):
            self.told_right(table, row)

    def test_one_gap_at_several_places(self):
        table = Table(["x", "y"], [(["a", "a"], YES)])
        self.assertEqual(self.told_right(table, (1, 1)), (False, True))
        self.assertEqual(self.told_right(table, (1, 2)), (False, False))

    def test_where_no_filling_keeps_the_whole(self):
        for whole in (NO, AllOf([Same("a", 1), Same("a", 2)]), Opposite(EITHER)):
            for rows in ([], [([1], YES)], [(["a"], YES), (["b"], NO)]):
                table = Table(["x"], rows, whole)
                for row in ((1,), (5,)):
                    self.assertEqual(self.told_right(table, row), (True, False))
                self.assertIsNone(sure_rows(table))

    def test_without_rows(self):
        for whole in (None, Same("a", 1)):
            table = Table(["x"], [], whole)
            self.assertEqual(self.told_right(table, (1,)), (False, False))
            self.assertEqual(sure_rows(table), [])

    def test_without_columns(self):
        self.assertEqual(self.told_right(Table([], [([], YES)]), ()), (True, True))
        self.assertEqual(self.told_right(Table([], [([], EITHER)]), ()), (True, True))
        self.assertEqual(self.told_right(Table([], [([], Same("a", 1))]), ()), (False, True))
        self.assertEqual(self.told_right(Table([], [([], NO)]), ()), (False, False))
        self.assertEqual(self.told_right(Table([], []), ()), (False, False))
        self.assertEqual(self.told_right(Table([], [([], Same("a", 1))], Same("a", 1)), ()), (True, True))

    def test_a_filling_has_gaps_that_do_not_matter(self):
        rows = [(["a"], NO), (["b"], AllOf([NO, Same("c", 1)]))]
        whole = OneOf([YES, Same("e", 1)])
        self.assertEqual(self.told_right(Table(["x"], rows + [([1], Same("d", "d"))], whole), (1,)), (True, True))
        self.assertEqual(self.told_right(Table(["x"], rows + [(["d"], YES)], whole), (1,)), (False, True))
        self.assertEqual(self.told_right(Table(["x"], rows + [(["d"], NO)], whole), (1,)), (False, False))

    def test_a_gap_called_like_a_column(self):
        table = Table(["a", "b"], [(["b", 1], Same("a", 2))])
        self.assertEqual(self.told_right(table, (5, 1)), (False, True))
        self.assertEqual(maybe(table, (5, 1)), ("may", {"a": 2, "b": 5}))

    def test_a_row_of_another_length(self):
        for ask in (sure, maybe):
            for columns in ([], ["x"], ["x", "y"]):
                for length in range(4):
                    if length != len(columns):
                        refused(self, Unlike, ask, Table(columns, []), tuple(range(length)))
                        refused(self, Unlike, ask, Table(columns, [], NO), tuple(range(length)))

    def test_too_many(self):
        for ask in (sure, maybe):
            table = Table(["x"], [([gap], YES) for gap in "abcdef"])
            refused(self, TooMany, ask, table, (0,))
            table = Table(["x"], [([gap], YES) for gap in "abcd"] + [([value], YES) for value in range(4)])
            refused(self, TooMany, ask, table, (0,))
            refused(self, TooMany, ask, Table(["x"], [(["a"], YES)], OneOf([Same("b", value) for value in range(31)])),
                         (0,))

    def test_the_row_has_its_part_in_the_bound(self):
        self.assertEqual((bound(4, 3), bound(4, 4)), (840, 1680))
        for table in (Table(["x"], [([gap], YES) for gap in "abcd"] + [([value], YES) for value in range(3)]),
                      Table(["x"], [], AllOf([Same("a", 0), Same("b", 1), Same("c", 2), Same("d", "d")]))):
            for ask in (sure, maybe):
                ask(table, (2,))
                refused(self, TooMany, ask, table, (3,))
                refused(self, TooMany, ask, table, (-1,))

    def test_a_value_that_stands_twice_in_the_row_counts_once(self):
        table = Table(["x", "y", "z"], [(["a", "b", "c"], Same("d", 0))])
        self.assertEqual((bound(4, 3), bound(4, 4)), (840, 1680))
        for ask in (sure, maybe):
            ask(table, (1, 2, 1))
            ask(table, (0, 1, 2))
            refused(self, TooMany, ask, table, (1, 2, 3))

    def test_unlike_ahead_of_too_many(self):
        table = Table(["x"], [([gap], YES) for gap in "abcdefg"])
        for ask in (sure, maybe):
            refused(self, Unlike, ask, table, ())
            refused(self, Unlike, ask, table, (1, 2))

    def test_too_many_where_the_whole_never_holds(self):
        for ask in (sure, maybe):
            refused(self, TooMany, ask, Table(["x"], [([gap], NO) for gap in "abcdefg"], NO), (1,))

    def test_as_wide_as_may_be(self):
        for table in wide_tables():
            self.assertGreater(bound(len(table.gaps()), len(table.standing())), 500 if len(table.gaps()) > 1 else 30)
            self.assertEqual(self.told_right(table, (0,)), (True, True))
            self.assertEqual(self.told_right(table, (table.standing()[-1],))[1], True)
            self.assertEqual(sure_rows(table), [(0,)])

    def test_as_long_and_as_deep_as_may_be(self):
        columns = ["c" + chr(97 + place) for place in range(8)]
        cond = AllOf([layered(OneOf([Same("a", number % 28), Opposite(Same("a", number % 28))]), 16)
                      for number in range(100)])
        table = Table(columns, [([1] * 8, OneOf([Opposite(cond), Same("a", place)])) for place in range(23)]
                      + [([1] * 7 + ["b"], cond)], Same("b", 1))
        self.assertIs(self.is_sure(table, (1,) * 8), True)
        self.assertIs(self.may_be(table, (1,) * 8), True)
        self.assertEqual((self.is_sure(table, (1,) * 7 + (2,)), self.may_be(table, (1,) * 7 + (2,))), (False, False))
        self.assertEqual(sure_rows(table), [(1,) * 8])

    def test_papers_by_the_words(self):
        told = []
        for table in drawn_tables(60, 11):
            for row in rows_over(table, [5])[:8]:
                said, paper = sure(table, row)
                if said == "sure":
                    cond = OneOf([Opposite(table.whole()), brought(table, row)])
                    self.assertIs(paper_by_words(cond, paper), True)
                    told.append(said)
                said, paper = maybe(table, row)
                if said == "never":
                    cond = Opposite(AllOf([table.whole(), brought(table, row)]))
                    self.assertIs(paper_by_words(cond, paper), True)
                    told.append(said)
        self.assertGreater(told.count("sure"), 20)
        self.assertGreater(told.count("never"), 50)

    def test_just_as_the_words_say(self):
        chance = random.Random(12)
        told = []
        for table in drawn_tables(150, 10):
            rows = rows_over(table, [5])
            for row in chance.sample(rows, min(len(rows), 6)):
                told.append(self.told_right(table, row))
        for said in ((True, True), (False, True), (False, False), (True, False)):
            self.assertGreater(told.count(said), 10)

    def test_of_what_an_ask_tells(self):
        one = Table(["x", "y"], [(["a", 1], YES), ([2, "b"], Same("a", 3))])
        other = Table(["y", "x"], [([1, 3], Opposite(Same("a", 3)))])
        self.assertEqual(self.told_right(chosen(one, Same("y", 1)), (3, 1)), (False, True))
        self.assertEqual(self.told_right(together(one, other), (3, 1)), (True, True))
        self.assertEqual(self.told_right(less(other, one), (1, 3)), (False, True))
        self.assertEqual(self.told_right(less(one, one), (3, 1)), (False, False))

    def test_of_what_three_asks_tell(self):
        conds = [OneOf([AllOf([Same("a", number), Opposite(Same("b", place % 3)), Opposite(Same("c", "b"))])
                        for number in range(place % 2, 3)] * 12) for place in range(24)]
        cells = [["a", "b"], [0, "c"], ["c", 1], ["b", "b"]] * 6
        table = Table(["x", "y"], list(zip(cells, conds)))
        other = Table(["x", "y"], [(row, AllOf([cond, Same("c", 1)])) for row, cond in table.rows()])
        told = less(table, less(table, less(table, other)))
        self.assertGreater(told.rows()[0][1].atoms(), 100000)
        fillings = kinds(table.gaps(), [0, 1, 2, 5])
        lists = [[row for row in table.filled(filling) if row not in other.filled(filling)] for filling in fillings]
        for row in ((0, 1), (0, 0), (2, 2), (5, 1), (0, 5)):
            self.assertEqual((self.is_sure(told, row), self.may_be(told, row)),
                             (all(row in rows for rows in lists), any(row in rows for rows in lists)))
        self.assertEqual(sure_rows(told), [])

    def test_arguments_by_name(self):
        table = Table(["x"], [([1], YES)])
        self.assertEqual(sure(table=table, row=(1,))[0], "sure")
        self.assertEqual(maybe(table=table, row=(2,))[0], "never")
        self.assertEqual(sure_rows(table=table), [(1,)])


class SureRowsTest(RowTest):
    def test_sorted(self):
        table = Table(["x", "y"], [([10, 1], YES), ([9, 2], EITHER), ([-1, 3], YES), ([9, -2], YES), ([10, 1], YES)])
        self.assertEqual(sure_rows(table), [(-1, 3), (9, -2), (9, 2), (10, 1)])
        self.assertIs(type(sure_rows(table)), list)
        for row in sure_rows(table):
            self.assertIs(type(row), tuple)

    def test_a_gap_of_which_only_one_kind_is_left(self):
        self.assertEqual(sure_rows(Table(["x"], [(["a"], YES)])), [])
        self.assertEqual(sure_rows(Table(["x"], [(["a"], YES)], Opposite(Same("a", 1)))), [])
        table = Table(["x", "y"], [(["a", 1], YES), ([1, 2], YES)], Opposite(Same("a", 1)))
        self.assertEqual(sure_rows(table), [(1, 2)])
        self.assertEqual(sure_rows(Table(["x", "y"], [(["a", "b"], YES)], AllOf([Same("a", "b"), YES]))), [])
        self.assertEqual(sure_rows(Table(["x"], [(["a"], YES), (["b"], YES)], Opposite(Same("a", "b")))), [])

    def test_a_gap_that_is_filled_for_good(self):
        self.assertEqual(sure_rows(Table(["x"], [(["a"], YES)], Same("a", 0))), [(0,)])
        self.assertEqual(sure_rows(Table(["x", "y"], [(["a", "b"], YES)], AllOf([Same("a", "b"), Same("b", 0)]))),
                         [(0, 0)])

    def test_0_among_the_values_and_not(self):
        self.assertEqual(sure_rows(Table(["x"], [(["a"], YES), ([0], Opposite(Same("a", 0)))])), [(0,)])
        self.assertEqual(sure_rows(Table(["x"], [(["a"], YES), ([1], Opposite(Same("a", 1)))])), [(1,)])

    def test_none_and_no_rows(self):
        self.assertIsNone(sure_rows(Table([], [], NO)))
        self.assertIsNone(sure_rows(Table(["x"], [([1], YES)], AllOf([Same("a", 1), Opposite(Same("a", 1))]))))
        self.assertEqual(sure_rows(Table([], [])), [])
        self.assertEqual(sure_rows(Table([], [([], YES)])), [()])
        self.assertEqual(sure_rows(Table([], [([], Same("a", 1))])), [])
        self.assertEqual(sure_rows(Table(["x"], [([1], NO)])), [])

    def test_too_many(self):
        self.assertEqual((bound(4, 3), bound(4, 4)), (840, 1680))
        rows = [([gap], YES) for gap in "abcd"]
        self.assertEqual(sure_rows(Table(["x"], rows + [([value], YES) for value in range(3)])), [(0,), (1,), (2,)])
        refused(self, TooMany, sure_rows, Table(["x"], rows + [([value], YES) for value in range(4)]))
        refused(self, TooMany, sure_rows, Table(["x"], [([gap], YES) for gap in "abcdefg"]))
        refused(self, TooMany, sure_rows, Table(["x"], [([gap], NO) for gap in "abcdefg"], NO))

    def test_just_as_the_words_say(self):
        found = 0
        for table in drawn_tables(200, 13):
            told = sure_rows(table)
            lists = self.lists(table, ())
            if not lists:
                self.assertIsNone(told)
            else:
                meant = [row for row in rows_over(table) if all(row in rows for rows in lists)]
                self.assertEqual(told, meant)
                found += len(meant)
        self.assertGreater(found, 50)

    def test_each_is_sure_and_no_other(self):
        for table in drawn_tables(60, 14):
            told = sure_rows(table)
            for row in rows_over(table, [5])[:40]:
                self.assertIs(sure(table, row)[0] == "sure", told is None or row in told)


class BelongingTest(unittest.TestCase):
    def test_what_is_told_belongs_to_whoever_asked(self):
        table = Table(["x"], [([1], YES), (["a"], YES)], Opposite(Same("b", 2)))
        before = table_shape(table)
        sure_rows(table).append((9,))
        sure(table, (3,))[1]["a"] = 3
        maybe(table, (3,))[1].clear()
        self.assertEqual(sure_rows(table), [(1,)])
        self.assertNotEqual(sure(table, (3,))[1]["a"], 3)
        self.assertEqual(maybe(table, (3,))[1]["a"], 3)
        self.assertEqual(table_shape(table), before)


if __name__ == "__main__":
    unittest.main()
