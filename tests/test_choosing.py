"""Asks of one table: chosen, narrowed, called."""

import itertools
import random
import unittest

from maybetables.choosing import called, chosen, narrowed
from maybetables.conds import AllOf, OneOf, Opposite, Same, Truth
from maybetables.errors import NoColumn, Twice
from maybetables.fillings import kinds
from maybetables.tables import Table
from tests.samples import (HIGH, drawn_cond, drawn_tables, layered, refused, shape, some_fillings, table_shape,
                           told_within, values_by)

YES, NO = Truth(True), Truth(False)


def some_table():
    """Three columns, four rows of which two have the same cells, and a whole."""
    return Table(["x", "y", "z"], [(["a", 1, 2], YES), ([3, "b", "a"], Same("c", 4)), ([3, 1, 5], NO),
                                   (["a", 1, 2], Opposite(Same("d", 6)))], OneOf([Same("e", 7), Same("a", 3)]))


def by_columns(cells, columns, filling):
    """What a row's cells come to at a filling, by the columns' names."""
    return dict(zip(columns, values_by(cells, filling)))


class AskTest(unittest.TestCase):
    def refused(self, error, name, ask, *handed):
        self.assertEqual(refused(self, error, ask, *handed).name, name)

    def same_whole(self, told, table):
        told_within(self, told.whole(), [table.whole()], [table])
        for filling in some_fillings(table.gaps(), table.standing()):
            self.assertIs(told.whole().truth(filling), table.whole().truth(filling))


class ChosenTest(AskTest):
    def chosen_right(self, table, cond):
        """Checks what is told, row by row, at each kind of filling, and as a filled list; how many rows were there."""
        told = chosen(table, cond)
        self.assertIsInstance(told, Table)
        self.assertEqual(told.columns(), table.columns())
        self.assertEqual([cells for cells, own in told.rows()], [cells for cells, own in table.rows()])
        self.same_whole(told, table)
        for (cells, own), (same_cells, given) in zip(table.rows(), told.rows()):
            told_within(self, given, [own, cond], [table], cond.standing())
        there = 0
        for filling in some_fillings(table.gaps(), table.standing() + cond.standing()):
            for (cells, own), (same_cells, given) in zip(table.rows(), told.rows()):
                meant = own.truth(filling) and cond.truth(by_columns(cells, table.columns(), filling))
                self.assertIs(given.truth(filling), meant)
                there += meant
            plain = table.filled(filling)
            if plain is not None:
                plain = [row for row in plain if cond.truth(dict(zip(table.columns(), row)))]
            self.assertEqual(told.filled(filling), plain)
        return there

    def test_by_a_value(self):
        told = chosen(some_table(), Same("y", 1))
        filling = {"a": 3, "b": 0, "c": 4, "d": 6, "e": 0}
        self.assertEqual(told.filled(filling), [(3, 1, 2)])
        self.assertEqual(told.filled(dict(filling, b=1)), [(3, 1, 2), (3, 1, 3)])
        self.assertIsNone(told.filled(dict(filling, a=4)))
        self.assertEqual(len(told.rows()), 4)

    def test_by_two_columns(self):
        told = chosen(some_table(), Same("x", "z"))
        self.assertEqual(told.filled({"a": 3, "b": 0, "c": 4, "d": 0, "e": 0}), [(3, 0, 3)])
        self.assertEqual(told.filled({"a": 2, "b": 0, "c": 4, "d": 0, "e": 7}), [(2, 1, 2)])
        self.assertEqual(told.filled({"a": 4, "b": 0, "c": 4, "d": 0, "e": 7}), [])

    def test_each_form(self):
        table = some_table()
        for cond in (YES, NO, AllOf([]), OneOf([]), Same("x", 3), Same(3, "x"), Same("x", "x"), Same(1, 1), Same(1, 2),
                     Opposite(Same("z", 2)), AllOf([Same("x", 3), Opposite(Same("y", 1))]),
                     OneOf([Same("z", "x"), Same("y", 0), NO]), Opposite(OneOf([Same("x", "y"), Same("y", "z")]))):
            with self.subTest(cond=shape(cond)):
                self.chosen_right(table, cond)

    def test_a_name_is_the_column_also_where_a_gap_is_called_so(self):
        table = Table(["a", "b"], [([1, "a"], YES), (["b", 2], Same("b", 3)), (["c", "b"], YES)])
        told = chosen(table, Same("a", 1))
        self.assertEqual(told.filled({"a": 5, "b": 6, "c": 7}), [(1, 5)])
        self.assertEqual(told.filled({"a": 1, "b": 1, "c": 7}), [(1, 1)])
        self.assertEqual(told.filled({"a": 1, "b": 3, "c": 1}), [(1, 1), (1, 3)])
        self.chosen_right(table, Same("a", 1))
        self.chosen_right(table, Same("b", "a"))

    def test_cells_are_put_in_all_at_once(self):
        table = Table(["a", "b"], [(["b", "a"], YES), (["b", "b"], YES), (["a", "c"], YES)])
        for cond in (Same("a", 1), Same("b", 1), AllOf([Same("a", 1), Same("b", 2)])):
            self.chosen_right(table, cond)

    def test_a_row_keeps_its_condition_on_gaps(self):
        table = Table(["c"], [([1], Same("c", 2)), ([2], Same("c", 2))])
        told = chosen(table, Same("c", 1))
        self.assertEqual(told.filled({"c": 2}), [(1,)])
        self.assertEqual(told.filled({"c": 1}), [])

    def test_the_whole_is_no_place_of_columns(self):
        told = chosen(Table(["a"], [([1], YES)], Same("a", 2)), Same("a", 1))
        self.assertEqual(told.filled({"a": 2}), [(1,)])
        self.assertIsNone(told.filled({"a": 1}))

    def test_of_no_columns_and_no_rows(self):
        self.assertEqual(chosen(Table([], [([], Same("a", 1))]), YES).filled({"a": 1}), [()])
        self.assertEqual(chosen(Table([], [([], YES)]), NO).filled({}), [])
        told = chosen(Table(["x"], [], Same("a", 1)), Same("x", 1))
        self.assertEqual((told.columns(), told.rows()), (["x"], []))
        self.assertIsNone(told.filled({"a": 2}))

    def test_a_name_that_is_no_column(self):
        table = some_table()
        self.refused(NoColumn, "a", chosen, table, Same("a", 1))
        self.refused(NoColumn, "w", chosen, table, AllOf([Same("x", 1), Same("w", 1)]))
        self.refused(NoColumn, "w", chosen, table, OneOf([YES, Same("w", "w")]))
        self.refused(NoColumn, "x", chosen, Table([], []), Same("x", 1))
        self.refused(NoColumn, "y", chosen, Table(["x"], []), Same("y", "x"))
        self.refused(NoColumn, "xx", chosen, table, Same("xx", "x"))

    def test_the_first_such_by_name(self):
        self.refused(NoColumn, "b", chosen, some_table(), AllOf([Same("w", 1), Same("y", "b"), Same("c", 1)]))
        self.refused(NoColumn, "aa", chosen, some_table(), AllOf([Same("b", "aa"), Same("ab", 1)]))

    def test_as_long_and_as_deep_as_may_be(self):
        cond = OneOf([layered(AllOf([Same("x", number % 25), Opposite(Same("x", "y"))]), 16) for number in range(50)])
        own = AllOf([layered(Opposite(AllOf([Same("a", number % 25), Same("b", 0)])), 16) for number in range(50)])
        table = Table(["x", "y"], [(["a", "b"], own), (["b", 3], YES)] * 12, Same("b", 1))
        told = chosen(table, cond)
        self.assertEqual(len(told.rows()), 24)
        for (cells, before), (same_cells, given) in zip(table.rows(), told.rows()):
            told_within(self, given, [before, cond], [table], cond.standing())
        for first, second in itertools.product((0, 1, 24, 25), (0, 1)):
            filling = {"a": first, "b": second}
            plain = table.filled(filling)
            if plain is not None:
                plain = [row for row in plain if cond.truth({"x": row[0], "y": row[1]})]
            self.assertEqual(told.filled(filling), plain)

    def test_values_of_sixty_figures(self):
        told = chosen(Table(["x"], [([HIGH], YES), (["a"], YES)]), Opposite(Same("x", -HIGH)))
        self.assertEqual(told.filled({"a": -HIGH}), [(HIGH,)])

    def test_just_as_the_words_say(self):
        chance = random.Random(3)
        there = 0
        for table in drawn_tables(150):
            names = table.columns()
            cond = drawn_cond(chance, names, [0, 1, 5][:chance.randint(1, 3)], 5, 4) if names else Truth(True)
            there += self.chosen_right(table, cond)
        self.assertGreater(there, 1000)

    def test_handed_on(self):
        table = some_table()
        told = chosen(chosen(table, Same("y", 1)), Opposite(Same("x", "z")))
        for filling in kinds(["a", "b", "c", "d", "e"], []):
            filling["e"] = 7
            plain = [row for row in table.filled(filling) if row[1] == 1 and row[0] != row[2]]
            self.assertEqual(told.filled(filling), plain)

    def test_arguments_by_name(self):
        self.assertEqual(chosen(table=Table(["x"], [([1], YES), ([2], YES)]), cond=Same("x", 2)).filled({}), [(2,)])

    def test_what_is_handed_in_stays(self):
        table, cond = some_table(), Same("x", 3)
        told = chosen(table, cond)
        told.columns().append("w")
        told.rows().clear()
        self.assertEqual(table_shape(table), table_shape(some_table()))
        self.assertEqual(shape(cond), ("same", "x", 3))
        self.assertEqual((told.columns(), len(told.rows())), (["x", "y", "z"], 4))


class NarrowedTest(AskTest):
    def narrowed_right(self, table, names):
        told = narrowed(table, names)
        self.assertIsInstance(told, Table)
        self.assertEqual(told.columns(), names)
        self.same_whole(told, table)
        self.assertEqual(len(told.rows()), len(table.rows()))
        for (cells, own), (fewer, given) in zip(table.rows(), told.rows()):
            row = dict(zip(table.columns(), cells))
            self.assertEqual(fewer, tuple(row[name] for name in names))
            told_within(self, given, [own], [table])
        for filling in some_fillings(table.gaps(), table.standing()):
            for (cells, own), (fewer, given) in zip(table.rows(), told.rows()):
                self.assertIs(given.truth(filling), own.truth(filling))
            plain = table.filled(filling)
            if plain is not None:
                rows = [dict(zip(table.columns(), row)) for row in plain]
                plain = sorted({tuple(row[name] for name in names) for row in rows})
            self.assertEqual(told.filled(filling), plain)

    def test_in_the_order_told(self):
        told = narrowed(some_table(), ["z", "x"])
        self.assertEqual(told.columns(), ["z", "x"])
        self.assertEqual([cells for cells, cond in told.rows()], [(2, "a"), ("a", 3), (5, 3), (2, "a")])
        self.assertEqual(told.filled({"a": 8, "b": 0, "c": 4, "d": 0, "e": 7}), [(2, 8), (8, 3)])

    def test_each_list_of_columns(self):
        for many in range(4):
            for names in itertools.permutations(["x", "y", "z"], many):
                self.narrowed_right(some_table(), list(names))

    def test_to_no_columns(self):
        told = narrowed(some_table(), [])
        self.assertEqual([cells for cells, cond in told.rows()], [()] * 4)
        self.assertEqual(told.filled({"a": 3, "b": 0, "c": 4, "d": 6, "e": 7}), [()])
        self.assertEqual(narrowed(Table(["x"], [([1], Same("a", 1))]), []).filled({"a": 2}), [])
        self.assertEqual(table_shape(narrowed(Table([], []), [])), table_shape(Table([], [])))

    def test_a_gap_of_left_cells_alone_is_no_gap_of_it(self):
        told = narrowed(Table(["x", "y"], [(["a", "b"], YES), ([1, 2], Same("c", 3))]), ["y"])
        self.assertEqual(told.gaps(), ["b", "c"])
        self.assertEqual(told.standing(), [2, 3])

    def test_a_name_that_is_no_column(self):
        self.refused(NoColumn, "w", narrowed, some_table(), ["w"])
        self.refused(NoColumn, "a", narrowed, some_table(), ["x", "a"])
        self.refused(NoColumn, "x", narrowed, Table([], []), ["x"])

    def test_the_first_such_in_the_list(self):
        self.refused(NoColumn, "w", narrowed, some_table(), ["x", "w", "b"])
        self.refused(NoColumn, "b", narrowed, some_table(), ["x", "b", "w"])

    def test_a_name_that_stands_there_twice(self):
        self.refused(Twice, "x", narrowed, some_table(), ["x", "x"])
        self.refused(Twice, "x", narrowed, some_table(), ["x", "y", "z", "x"])

    def test_the_first_that_stood_there_ahead_of_it(self):
        self.refused(Twice, "y", narrowed, some_table(), ["x", "y", "y", "x"])
        self.refused(Twice, "x", narrowed, some_table(), ["y", "x", "x", "y"])
        self.refused(Twice, "x", narrowed, some_table(), ["x", "y", "x", "y"])
        self.refused(Twice, "z", narrowed, some_table(), ["y", "z", "x", "z", "y", "x"])
        self.refused(Twice, "z", narrowed, some_table(), ["z", "z", "z", "x", "x"])

    def test_no_column_ahead_of_twice(self):
        self.refused(NoColumn, "w", narrowed, some_table(), ["x", "x", "w"])
        self.refused(NoColumn, "w", narrowed, some_table(), ["w", "w"])

    def test_sixty_names(self):
        self.refused(Twice, "x", narrowed, some_table(), ["x", "y", "z"] * 20)
        self.refused(NoColumn, "w", narrowed, some_table(), ["x", "y", "z"] * 19 + ["z", "y", "w"])

    def test_just_as_the_words_say(self):
        chance = random.Random(5)
        for table in drawn_tables(120, 2):
            names = table.columns()
            chance.shuffle(names)
            self.narrowed_right(table, names[:chance.randint(0, len(names))])

    def test_arguments_by_name(self):
        self.assertEqual(narrowed(table=Table(["x", "y"], [([1, 2], YES)]), names=["y"]).filled({}), [(2,)])

    def test_what_is_handed_in_stays(self):
        table, names = some_table(), ["z", "x"]
        told = narrowed(table, names)
        self.assertEqual(names, ["z", "x"])
        names.append("y")
        names[0] = "w"
        self.assertEqual(told.columns(), ["z", "x"])
        told.columns().clear()
        self.assertEqual(told.columns(), ["z", "x"])
        self.assertEqual(table_shape(table), table_shape(some_table()))


class CalledTest(AskTest):
    def called_right(self, table, names):
        told = called(table, names)
        self.assertIsInstance(told, Table)
        self.assertEqual(told.columns(), [names.get(name, name) for name in table.columns()])
        self.same_whole(told, table)
        self.assertEqual([cells for cells, cond in told.rows()], [cells for cells, cond in table.rows()])
        for (cells, own), (same_cells, given) in zip(table.rows(), told.rows()):
            told_within(self, given, [own], [table])
        for filling in some_fillings(table.gaps(), table.standing()):
            for (cells, own), (same_cells, given) in zip(table.rows(), told.rows()):
                self.assertIs(given.truth(filling), own.truth(filling))
            self.assertEqual(told.filled(filling), table.filled(filling))

    def test_some_columns(self):
        self.assertEqual(called(some_table(), {"x": "w"}).columns(), ["w", "y", "z"])
        self.assertEqual(called(some_table(), {"z": "abcdefgh", "x": "a"}).columns(), ["a", "y", "abcdefgh"])
        self.assertEqual(called(some_table(), {}).columns(), ["x", "y", "z"])
        self.assertEqual(called(Table([], []), {}).columns(), [])
        self.assertEqual(called(some_table(), {"x": "x"}).columns(), ["x", "y", "z"])

    def test_all_at_once(self):
        self.assertEqual(called(some_table(), {"x": "y", "y": "x"}).columns(), ["y", "x", "z"])
        self.assertEqual(called(some_table(), {"x": "y", "y": "z", "z": "x"}).columns(), ["y", "z", "x"])
        self.assertEqual(called(some_table(), {"z": "y", "y": "w"}).columns(), ["x", "w", "y"])

    def test_each_way_of_three_columns(self):
        told = 0
        for names in itertools.product(["x", "y", "z", "a", None], repeat=3):
            names = {old: new for old, new in zip(["x", "y", "z"], names) if new is not None}
            columns = [names.get(name, name) for name in ["x", "y", "z"]]
            repeated = sorted(name for name in columns if columns.count(name) > 1)
            if repeated:
                self.refused(Twice, repeated[0], called, some_table(), names)
            else:
                self.called_right(some_table(), names)
                told += 1
        self.assertGreater(told, 20)

    def test_gaps_keep_their_names(self):
        table = Table(["a"], [(["a"], Same("a", 1))], Opposite(Same("a", 2)))
        told = called(table, {"a": "b"})
        self.assertEqual(told.columns(), ["b"])
        self.assertEqual(told.gaps(), ["a"])
        self.assertEqual(told.filled({"a": 1}), [(1,)])

    def test_an_old_name_that_is_no_column(self):
        self.refused(NoColumn, "w", called, some_table(), {"w": "x"})
        self.refused(NoColumn, "w", called, some_table(), {"w": "w"})
        self.refused(NoColumn, "a", called, some_table(), {"x": "w", "a": "b"})
        self.refused(NoColumn, "x", called, Table([], []), {"x": "y"})

    def test_the_first_such_by_name(self):
        self.refused(NoColumn, "b", called, some_table(), {"w": "a", "b": "c", "c": "b"})
        self.refused(NoColumn, "aa", called, some_table(), {"b": "ba", "ab": "bb", "aa": "bc"})

    def test_two_columns_of_one_name(self):
        self.refused(Twice, "y", called, some_table(), {"x": "y"})
        self.refused(Twice, "w", called, some_table(), {"x": "w", "z": "w"})
        self.refused(Twice, "x", called, some_table(), {"x": "y", "y": "x", "z": "x"})

    def test_the_first_name_that_two_would_have(self):
        table = Table(["p", "q", "r", "s"], [])
        self.refused(Twice, "b", called, table, {"p": "c", "q": "c", "r": "b", "s": "b"})
        self.refused(Twice, "b", called, table, {"p": "b", "q": "b", "r": "c", "s": "c"})
        self.refused(Twice, "q", called, table, {"p": "q", "r": "s"})
        self.refused(Twice, "aa", called, table, {"p": "b", "q": "aa", "r": "b", "s": "aa"})

    def test_no_column_ahead_of_twice(self):
        self.refused(NoColumn, "w", called, some_table(), {"x": "y", "w": "a"})
        self.refused(NoColumn, "w", called, some_table(), {"x": "a", "w": "a"})

    def test_just_as_the_words_say(self):
        for table in drawn_tables(60, 4):
            self.called_right(table, {name: new for name, new in zip(table.columns(), ["a", "b", "x", "y"])})

    def test_arguments_by_name(self):
        self.assertEqual(called(table=Table(["x"], []), names={"x": "y"}).columns(), ["y"])

    def test_what_is_handed_in_stays(self):
        table, names = some_table(), {"x": "w", "y": "x"}
        told = called(table, names)
        self.assertEqual(names, {"x": "w", "y": "x"})
        names["z"] = "a"
        names.pop("x")
        self.assertEqual(told.columns(), ["w", "x", "z"])
        self.assertEqual(table_shape(table), table_shape(some_table()))


if __name__ == "__main__":
    unittest.main()
