"""Tables: columns, rows and whole, what stands in them, filled, and cells put in."""

import itertools
import unittest

from maybetables.conds import AllOf, Cond, OneOf, Opposite, Same, Truth
from maybetables.errors import MaybeError, NoFilling, Short, Twice
from maybetables.fillings import kinds
from maybetables.tables import Table
from tests.samples import HIGH, drawn_tables, filled_by_words, table_shape

YES, NO = Truth(True), Truth(False)


def some_table():
    """Two columns, three rows, and a whole, with gaps and values in each place."""
    return Table(["x", "y"], [(["a", 1], YES), ((2, "b"), Same("c", 3)), ([4, "a"], Opposite(Same("b", "d")))],
                 OneOf([Same("e", 5), Same("a", -6)]))


class MadeTest(unittest.TestCase):
    def twice(self, name, columns, rows=()):
        with self.assertRaises(Twice) as caught:
            Table(columns, list(rows))
        self.assertIsInstance(caught.exception, MaybeError)
        self.assertEqual(caught.exception.name, name)

    def short(self, row, columns, rows):
        with self.assertRaises(Short) as caught:
            Table(columns, rows)
        self.assertIsInstance(caught.exception, MaybeError)
        self.assertEqual(caught.exception.row, row)
        self.assertIs(type(caught.exception.row), int)

    def test_columns_in_their_order(self):
        self.assertEqual(Table(["y", "x", "abcdefgh"], []).columns(), ["y", "x", "abcdefgh"])
        self.assertIs(type(some_table().columns()), list)

    def test_rows_in_their_order(self):
        conds = [Same("c", 3), YES, NO]
        rows = Table(["x", "y"], [(["b", 1], conds[0]), ((2, "a"), conds[1]), (["b", 1], conds[2])]).rows()
        self.assertIs(type(rows), list)
        self.assertEqual([cells for cells, cond in rows], [("b", 1), (2, "a"), ("b", 1)])
        for row, cond in zip(rows, conds):
            self.assertIs(type(row), tuple)
            self.assertEqual(len(row), 2)
            self.assertIs(type(row[0]), tuple)
            self.assertIs(row[1], cond)

    def test_whole(self):
        whole = Same("a", 1)
        self.assertIs(Table([], [], whole).whole(), whole)
        for table in (Table([], []), Table(["x"], [(["a"], NO)]), Table([], [], None)):
            self.assertIsInstance(table.whole(), Cond)
            self.assertIs(table.whole().truth({}), True)
            self.assertEqual(table.whole().gaps(), [])

    def test_of_no_columns_and_no_rows(self):
        self.assertEqual(table_shape(Table([], []))[:2], ([], []))
        self.assertEqual(table_shape(Table(["x"], []))[:2], (["x"], []))
        self.assertEqual(table_shape(Table([], [([], YES), ((), NO)]))[:2],
                         ([], [((), ("truth", True)), ((), ("truth", False))]))

    def test_a_column_may_be_called_like_a_gap(self):
        table = Table(["a", "b"], [(["b", "a"], Same("a", "b"))])
        self.assertEqual(table.columns(), ["a", "b"])
        self.assertEqual(table.gaps(), ["a", "b"])
        self.assertEqual(Table(["a"], [([1], YES)]).gaps(), [])

    def test_a_column_told_twice(self):
        self.twice("x", ["x", "x"])
        self.twice("x", ["y", "x", "z", "x"])
        self.twice("x", ["x", "x", "x"])

    def test_the_first_by_name_that_is_told_twice(self):
        self.twice("b", ["c", "b", "c", "b", "a"])
        self.twice("b", ["b", "c", "b", "c", "a"])
        self.twice("aa", ["b", "b", "aa", "aa", "ab"])
        self.twice("a", ["aa", "aa", "a", "a"])

    def test_a_row_with_more_or_fewer_cells(self):
        self.short(0, ["x"], [([], YES)])
        self.short(0, ["x"], [(["a", 1], YES)])
        self.short(0, [], [([1], YES)])
        self.short(1, ["x", "y"], [([1, 2], YES), ([1], YES), ([3, 4], YES)])
        self.short(2, ["x", "y"], [([1, 2], YES), ((5, 6), YES), (("a", "b", "c"), YES)])

    def test_the_first_such_row(self):
        self.short(1, ["x"], [([1], YES), ([], YES), ([1, 2], YES)])
        self.short(1, ["x"], [([1], YES), ([1, 2], YES), ([], YES)])
        self.short(23, ["x"], [([number], YES) for number in range(23)] + [([], YES)])

    def test_a_row_that_is_never_there_is_asked_too(self):
        self.short(0, ["x"], [([], NO)])

    def test_twice_ahead_of_short(self):
        self.twice("y", ["y", "x", "y"], [([1], YES)])
        self.twice("y", ["y", "y"], [([1], YES), ([], YES)])

    def test_twenty_four_rows_of_eight_columns(self):
        columns = ["c" + chr(97 + number) for number in range(8)]
        rows = [([number * 8 + place for place in range(8)], YES) for number in range(3)] * 8
        table = Table(columns, rows)
        self.assertEqual(len(table.rows()), 24)
        self.assertEqual(table.standing(), list(range(24)))
        self.assertEqual(table.filled({}), [tuple(range(8)), tuple(range(8, 16)), tuple(range(16, 24))])

    def test_arguments_by_name(self):
        table = Table(columns=["x"], rows=[(["a"], YES)], whole=Same("b", 1))
        self.assertEqual(table_shape(table), (["x"], [(("a",), ("truth", True))], ("same", "b", 1)))
        self.assertEqual(table.filled(filling={"a": 2, "b": 1}), [(2,)])
        self.assertEqual(table.put(cells={"a": 3, "b": 1}).filled({}), [(3,)])


class StandingTest(unittest.TestCase):
    def test_gaps_of_each_place(self):
        self.assertEqual(some_table().gaps(), ["a", "b", "c", "d", "e"])
        self.assertEqual(Table(["x"], [(["c"], YES)]).gaps(), ["c"])
        self.assertEqual(Table(["x"], [([1], Same("b", 2))]).gaps(), ["b"])
        self.assertEqual(Table(["x"], [([1], YES)], Same("d", 2)).gaps(), ["d"])
        self.assertEqual(Table(["x"], []).gaps(), [])

    def test_values_of_each_place(self):
        self.assertEqual(some_table().standing(), [-6, 1, 2, 3, 4, 5])
        self.assertEqual(Table(["x"], [([7], YES)]).standing(), [7])
        self.assertEqual(Table(["x"], [(["a"], Same("b", 2))]).standing(), [2])
        self.assertEqual(Table(["x"], [(["a"], YES)], Same("d", 0)).standing(), [0])
        self.assertEqual(Table(["x"], []).standing(), [])

    def test_gaps_sorted_each_once(self):
        table = Table(["x", "y"], [(["b", "aa"], Same("ab", "b")), (["z", "b"], Same("a", "aa"))], Same("zz", "a"))
        self.assertEqual(table.gaps(), ["a", "aa", "ab", "b", "z", "zz"])
        self.assertIs(type(table.gaps()), list)

    def test_values_rising_each_once(self):
        table = Table(["x", "y"], [([10, 9], Same(-1, "a")), ([9, -10], Same(HIGH, 0))], Same(100, -1))
        self.assertEqual(table.standing(), [-10, -1, 0, 9, 10, 100, HIGH])
        self.assertIs(type(table.standing()), list)

    def test_what_does_not_matter_stands_there_too(self):
        table = Table(["x"], [(["a"], NO), ([1], AllOf([NO, Same("b", 2)]))], OneOf([YES, Same("c", 3)]))
        self.assertEqual(table.gaps(), ["a", "b", "c"])
        self.assertEqual(table.standing(), [1, 2, 3])


class FilledTest(unittest.TestCase):
    def refused(self, table, filling, gap):
        before = dict(filling)
        with self.assertRaises(NoFilling) as caught:
            table.filled(filling)
        self.assertIsInstance(caught.exception, MaybeError)
        self.assertEqual(caught.exception.gap, gap)
        self.assertEqual(filling, before)

    def test_rows_whose_conditions_hold(self):
        table = some_table()
        self.assertEqual(table.filled({"a": 9, "b": 8, "c": 3, "d": 7, "e": 5}), [(2, 8), (4, 9), (9, 1)])
        self.assertEqual(table.filled({"a": 9, "b": 8, "c": 4, "d": 7, "e": 5}), [(4, 9), (9, 1)])
        self.assertEqual(table.filled({"a": 9, "b": 8, "c": 3, "d": 8, "e": 5}), [(2, 8), (9, 1)])
        self.assertEqual(table.filled({"a": -6, "b": 8, "c": 4, "d": 8, "e": 0}), [(-6, 1)])

    def test_none_where_the_whole_fails(self):
        self.assertIsNone(some_table().filled({"a": 9, "b": 8, "c": 3, "d": 7, "e": 6}))
        self.assertIsNone(Table([], [], NO).filled({}))
        self.assertIsNone(Table(["x"], [([1], YES)], Same("a", 1)).filled({"a": 2}))

    def test_no_rows_are_not_none(self):
        self.assertEqual(Table(["x"], []).filled({}), [])
        self.assertEqual(Table(["x"], [([1], NO)]).filled({}), [])
        self.assertEqual(Table([], [([], Same("a", 1))]).filled({"a": 2}), [])

    def test_of_no_columns(self):
        self.assertEqual(Table([], [([], Same("a", 1)), ([], YES)]).filled({"a": 1}), [()])
        self.assertEqual(Table([], []).filled({}), [])

    def test_sorted_each_once(self):
        table = Table(["x", "y"], [([10, "a"], YES), ([9, 1], YES), (["b", -1], YES), ([9, 1], Same("a", 5)),
                                   (["c", "a"], YES), ([9, -1], YES)])
        told = table.filled({"a": 5, "b": -3, "c": 10})
        self.assertEqual(told, [(-3, -1), (9, -1), (9, 1), (10, 5)])
        self.assertIs(type(told), list)
        for row in told:
            self.assertIs(type(row), tuple)
        self.assertEqual(table.filled({"a": 1, "b": 9, "c": 9}), [(9, -1), (9, 1), (10, 1)])

    def test_one_gap_at_several_places(self):
        table = Table(["x", "y"], [(["a", "a"], YES), (["a", 1], Same("a", 1))])
        self.assertEqual(table.filled({"a": 1}), [(1, 1)])
        self.assertEqual(table.filled({"a": 0}), [(0, 0)])

    def test_gaps_besides(self):
        self.assertEqual(Table(["x"], [(["b"], YES)]).filled({"a": 1, "b": 2, "x": 3}), [(2,)])
        self.assertEqual(Table([], []).filled({"a": 1}), [])

    def test_a_column_is_no_gap(self):
        self.assertEqual(Table(["a"], [(["b"], YES)]).filled({"b": 2}), [(2,)])

    def test_a_lacking_gap_in_each_place(self):
        full = {"a": 9, "b": 8, "c": 3, "d": 7, "e": 5}
        for gap in full:
            self.refused(some_table(), {name: full[name] for name in full if name != gap}, gap)

    def test_the_first_lacking_gap_by_name(self):
        self.refused(some_table(), {}, "a")
        self.refused(some_table(), {"a": 1, "c": 1, "z": 1}, "b")
        self.refused(some_table(), {"a": 1, "b": 1, "c": 1}, "d")
        self.refused(Table(["x", "y"], [(["b", "aa"], YES)], Same("ab", 1)), {"aa": 1}, "ab")

    def test_refused_ahead_of_none(self):
        self.refused(Table(["x"], [(["a"], YES)], NO), {}, "a")
        self.refused(Table(["x"], [(["a"], NO)], Same("b", 1)), {"b": 2}, "a")
        self.refused(Table(["x"], [([1], AllOf([NO, Same("c", 1)]))], NO), {"a": 1}, "c")

    def test_refused_for_a_row_that_is_not_there(self):
        self.refused(Table(["x"], [(["a"], NO)]), {}, "a")
        self.refused(Table(["x"], [(["a"], Same("b", 1))]), {"b": 0}, "a")

    def test_values_of_sixty_figures(self):
        self.assertEqual(Table(["x"], [([HIGH], YES), (["a"], YES)]).filled({"a": -HIGH}), [(-HIGH,), (HIGH,)])

    def test_just_as_the_words_say(self):
        told = []
        for table in drawn_tables(150):
            for filling in kinds(table.gaps(), table.standing()):
                before = dict(filling)
                said = table.filled(filling)
                self.assertEqual(said, filled_by_words(table, filling))
                self.assertEqual(filling, before)
                told.append(said is None)
        self.assertGreater(told.count(True), 100)
        self.assertGreater(told.count(False), 100)


class PutTest(unittest.TestCase):
    def test_in_each_place(self):
        told = some_table().put({"a": 7, "b": "z", "c": "a", "d": "b", "e": 5})
        self.assertIsInstance(told, Table)
        self.assertEqual(table_shape(told), table_shape(Table(
            ["x", "y"], [([7, 1], YES), ([2, "z"], Same("a", 3)), ([4, 7], Opposite(Same("z", "b")))],
            OneOf([Same(5, 5), Same(7, -6)]))))
        self.assertEqual(told.gaps(), ["a", "b", "z"])
        self.assertEqual(told.standing(), [-6, 1, 2, 3, 4, 5, 7])

    def test_all_at_once(self):
        table = Table(["x", "y"], [(["a", "b"], Same("a", 1))], Same("b", 2))
        self.assertEqual(table_shape(table.put({"a": "b", "b": "a"})),
                         table_shape(Table(["x", "y"], [(["b", "a"], Same("b", 1))], Same("a", 2))))

    def test_other_gaps_stay(self):
        for cells in ({}, {"z": 1}, {"x": "a", "y": 3}):
            self.assertEqual(table_shape(some_table().put(cells)), table_shape(some_table()))

    def test_columns_stay(self):
        table = Table(["a", "b"], [(["a", 1], YES)])
        told = table.put({"a": "b", "b": 3})
        self.assertEqual(told.columns(), ["a", "b"])
        self.assertEqual(told.rows()[0][0], ("b", 1))

    def test_gaps_to_0(self):
        self.assertEqual(Table(["x"], [(["a"], Same("a", 0))]).put({"a": 0}).filled({}), [(0,)])

    def test_no_columns_and_no_rows(self):
        self.assertEqual(table_shape(Table([], []).put({"a": 1})), table_shape(Table([], [])))
        told = Table([], [([], Same("a", 1))], Same("a", "b")).put({"a": 1, "b": 1})
        self.assertEqual(told.filled({}), [()])

    def test_the_table_stays(self):
        table = some_table()
        table.put({"a": 1, "b": 2, "c": 3, "d": 4, "e": 5})
        self.assertEqual(table_shape(table), table_shape(some_table()))
        self.assertEqual(table.gaps(), ["a", "b", "c", "d", "e"])

    def test_filled_as_by_what_the_cells_come_to(self):
        for table, cells in zip(drawn_tables(60), itertools.cycle(
                [{"a": "b"}, {"a": 1, "b": "a"}, {"a": "b", "b": "c", "c": "a"}, {"c": 0}, {}])):
            told = table.put(cells)
            for filling in kinds(["a", "b", "c"], [0, 1]):
                meant = dict(filling)
                for gap, cell in cells.items():
                    meant[gap] = filling[cell] if isinstance(cell, str) else cell
                self.assertEqual(told.filled(filling), table.filled(meant))


class BelongingTest(unittest.TestCase):
    def test_what_is_handed_in_stays(self):
        columns, cells = ["y", "x"], ["b", 2]
        rows = [(cells, Same("a", 1)), ((3, 3), YES)]
        table = Table(columns, rows)
        filling, gaps = {"a": 1, "b": 5}, {"b": "c"}
        table.filled(filling)
        table.put(gaps)
        self.assertEqual((columns, cells, len(rows)), (["y", "x"], ["b", 2], 2))
        self.assertIs(rows[0][0], cells)
        self.assertEqual((filling, gaps), ({"a": 1, "b": 5}, {"b": "c"}))

    def test_what_is_handed_in_changed_behind_changes_nothing(self):
        columns, cells, gaps = ["y", "x"], ["b", 2], {"b": "c"}
        rows = [(cells, Same("a", 1))]
        table = Table(columns, rows)
        told = table.put(gaps)
        columns.append("z")
        cells[0] = 9
        rows.append(([1, 1], YES))
        gaps["a"] = 5
        self.assertEqual(table_shape(table), (["y", "x"], [(("b", 2), ("same", "a", 1))], ("truth", True)))
        self.assertEqual(table.gaps(), ["a", "b"])
        self.assertEqual(table.filled({"a": 1, "b": 4}), [(4, 2)])
        self.assertEqual(told.filled({"a": 1, "c": 4}), [(4, 2)])

    def test_what_is_told_belongs_to_whoever_asked(self):
        table = some_table()
        filling = {"a": 9, "b": 8, "c": 3, "d": 7, "e": 5}
        for told in (table.columns(), table.rows(), table.gaps(), table.standing(), table.filled(filling)):
            told.reverse()
            told.append(0)
            del told[0]
        self.assertEqual(table_shape(table), table_shape(some_table()))
        self.assertEqual(table.gaps(), ["a", "b", "c", "d", "e"])
        self.assertEqual(table.standing(), [-6, 1, 2, 3, 4, 5])
        self.assertEqual(table.filled(filling), [(2, 8), (4, 9), (9, 1)])

    def test_two_tables_have_their_own(self):
        one, other = Table([], []), Table([], [])
        one.columns().append("x")
        one.rows().append(([], YES))
        one.filled({}).append(())
        self.assertEqual(other.filled({}), [])
        self.assertEqual(table_shape(one), table_shape(other))


if __name__ == "__main__":
    unittest.main()
