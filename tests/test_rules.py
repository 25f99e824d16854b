"""Rules asked of a table, and tables under rules."""

import itertools
import random
import unittest

from maybetables.conds import AllOf, Cond, OneOf, Opposite, Same, Truth
from maybetables.counting import tally
from maybetables.errors import NoColumn, Unlike
from maybetables.fillings import kinds
from maybetables.pairing import less
from maybetables.rules import Key, Leads, Rule, Stands, ruled
from maybetables.sureness import maybe, sure, sure_rows
from maybetables.tables import Table
from tests.samples import (HIGH, drawn_table, drawn_tables, filled_by_words, in_order, layered, refused, rows_there,
                           shape, some_fillings, table_shape)

YES, NO = Truth(True), Truth(False)


def key_kept(table, columns, filling):
    """Whether a Key is kept, by the words of 28."""
    rows = [(row, in_order(table.columns(), columns, row)) for row in rows_there(table, filling)]
    return not [1 for one in rows for other in rows if one[0] != other[0] and one[1] == other[1]]


def leads_kept(table, columns, column, filling):
    """Whether a Leads is kept, by the words of 28."""
    rows = [(in_order(table.columns(), [column], row), in_order(table.columns(), columns, row))
            for row in rows_there(table, filling)]
    return not [1 for one in rows for other in rows if one[0] != other[0] and one[1] == other[1]]


def stands_kept(table, columns, other, others, filling):
    """Whether a Stands is kept, by the words of 28."""
    found = [in_order(other.columns(), others, row) for row in rows_there(other, filling)]
    return all(in_order(table.columns(), columns, row) in found for row in rows_there(table, filling))


def names_out_of(chance, columns, many):
    """So many of some columns, one of them perhaps more than once."""
    return [chance.choice(columns) for place in range(many)] if columns else []


def long_conds(many):
    """So many conditions of two hundred atoms, twenty deep, that hold at some fillings of a and b."""
    return [AllOf([layered(OneOf([Same("a", place % 4), Opposite(Same("b", number % (place % 3 + 1)))]), 16)
                   for number in range(100)]) for place in range(many)]


class RuleTest(unittest.TestCase):
    def asked_right(self, rule, table, kept, others=()):
        """Asks the rule of the table; how often it is kept at some fillings and how often not."""
        self.assertIsInstance(rule, Rule)
        before = table_shape(table)
        cond = rule.asked(table)
        self.assertIsInstance(cond, Cond)
        gaps = [gap for each in (table, *others) for gap in each.gaps()]
        values = [value for each in (table, *others) for value in each.standing()]
        self.assertLessEqual(set(cond.gaps()), set(gaps))
        self.assertLessEqual(set(cond.standing()), set(values))
        told = []
        for filling in some_fillings(gaps, values):
            told.append(cond.truth(filling))
            self.assertIs(told[-1], kept(filling))
        self.assertEqual(table_shape(table), before)
        return told.count(True), told.count(False)

    def key_right(self, table, columns):
        return self.asked_right(Key(columns), table, lambda filling: key_kept(table, columns, filling))

    def leads_right(self, table, columns, column):
        return self.asked_right(Leads(columns, column), table,
                                lambda filling: leads_kept(table, columns, column, filling))

    def stands_right(self, table, columns, other, others):
        return self.asked_right(Stands(columns, other, others), table,
                                lambda filling: stands_kept(table, columns, other, others, filling), [other])

    def no_column(self, name, rule, table):
        self.assertEqual(refused(self, NoColumn, rule.asked, table).name, name)


class KeyTest(RuleTest):
    def test_without_gaps(self):
        table = Table(["x", "y"], [([1, 2], YES), ([1, 3], YES), ([2, 2], YES)])
        self.assertIs(Key(["x"]).asked(table).truth({}), False)
        self.assertIs(Key(["y"]).asked(table).truth({}), False)
        self.assertIs(Key(["x", "y"]).asked(table).truth({}), True)
        self.assertIs(Key([]).asked(table).truth({}), False)
        self.assertIs(Key(["x"]).asked(Table(["x", "y"], table.rows()[1:])).truth({}), True)

    def test_the_same_row_twice_is_one_row(self):
        table = Table(["x", "y"], [([1, 2], YES), ([1, 2], YES)])
        for columns in ([], ["x"], ["y"], ["x", "y"]):
            self.assertIs(Key(columns).asked(table).truth({}), True)
        table = Table(["x", "y"], [([1, "a"], YES), ([1, "b"], YES)])
        cond = Key(["x"]).asked(table)
        self.assertIs(cond.truth({"a": 4, "b": 4}), True)
        self.assertIs(cond.truth({"a": 4, "b": 5}), False)
        self.assertEqual(self.key_right(table, ["x"]), (2, 3))

    def test_a_gap_in_a_column_of_the_key(self):
        table = Table(["x", "y"], [(["a", 1], YES), ([3, 2], YES), (["b", 1], YES)])
        cond = Key(["x"]).asked(table)
        self.assertIs(cond.truth({"a": 3, "b": 4}), False)
        self.assertIs(cond.truth({"a": 4, "b": 4}), True)
        self.assertIs(cond.truth({"a": 5, "b": 4}), True)
        self.assertIs(cond.truth({"a": 5, "b": 3}), False)
        self.key_right(table, ["x"])
        self.key_right(table, ["y"])

    def test_only_rows_that_are_there(self):
        table = Table(["x", "y"], [([1, 2], Same("a", 1)), ([1, 3], Opposite(Same("b", 1))), ([1, 4], NO)])
        cond = Key(["x"]).asked(table)
        self.assertIs(cond.truth({"a": 1, "b": 1}), True)
        self.assertIs(cond.truth({"a": 1, "b": 2}), False)
        self.assertIs(cond.truth({"a": 2, "b": 2}), True)
        self.key_right(table, ["x"])

    def test_whatever_the_whole_says(self):
        rows = [([1, "a"], YES), ([1, "b"], YES)]
        for whole in (NO, Same("a", "b"), Opposite(Same("a", "b")), Same("c", 1)):
            table = Table(["x", "y"], rows, whole)
            kept, broken = self.key_right(table, ["x"])
            self.assertGreater(min(kept, broken), 0)
            self.assertIs(Key(["x"]).asked(table).truth({"a": 1, "b": 2, "c": 2}), False)
            self.assertIs(Key(["x"]).asked(table).truth({"a": 2, "b": 2, "c": 2}), True)

    def test_of_no_columns(self):
        table = Table(["x"], [(["a"], YES), (["b"], Same("c", 1))])
        self.assertIs(Key([]).asked(table).truth({"a": 1, "b": 1, "c": 1}), True)
        self.assertIs(Key([]).asked(table).truth({"a": 1, "b": 2, "c": 1}), False)
        self.assertIs(Key([]).asked(table).truth({"a": 1, "b": 2, "c": 2}), True)
        self.key_right(table, [])
        self.assertIs(Key([]).asked(Table([], [([], YES), ([], YES)])).truth({}), True)

    def test_of_no_rows_and_of_one(self):
        for rows in ([], [(["a", 1], Same("b", 1))]):
            for columns in ([], ["x"], ["y", "x"]):
                self.assertEqual(self.key_right(Table(["x", "y"], rows), columns)[1], 0)

    def test_a_column_twice(self):
        table = Table(["x", "y"], [([1, "a"], YES), ([1, "b"], YES), (["a", 2], YES)])
        self.assertEqual(self.key_right(table, ["x", "x"]), self.key_right(table, ["x"]))
        self.assertEqual(self.key_right(table, ["y", "x", "y"]), self.key_right(table, ["x", "y"]))

    def test_a_gap_called_like_a_column(self):
        table = Table(["a", "b"], [(["b", 1], Same("a", 1)), ([1, "a"], YES)])
        self.key_right(table, ["a"])
        self.key_right(table, ["b"])

    def test_no_column(self):
        table = Table(["x", "y"], [(["a", 1], YES)])
        self.no_column("z", Key(["z"]), table)
        self.no_column("z", Key(["x", "z", "c"]), table)
        self.no_column("a", Key(["x", "a"]), table)
        self.no_column("x", Key(["x"]), Table([], []))
        self.no_column("x", Key(["y", "x"]), Table(["y"], []))

    def test_just_as_the_words_say(self):
        chance = random.Random(31)
        kept, broken = 0, 0
        for table in drawn_tables(150, 31):
            told = self.key_right(table, names_out_of(chance, table.columns(), chance.randint(0, 3)))
            kept, broken = kept + told[0], broken + told[1]
        self.assertGreater(min(kept, broken), 200)

    def test_values_of_sixty_figures(self):
        table = Table(["x", "y"], [([HIGH, "a"], YES), (["b", -HIGH], YES)])
        self.assertIs(Key(["x"]).asked(table).truth({"a": 1, "b": int(str(HIGH))}), False)
        self.assertIs(Key(["x"]).asked(table).truth({"a": int(str(-HIGH)), "b": int(str(HIGH))}), True)
        self.key_right(table, ["x"])

    def test_arguments_by_name(self):
        self.assertIs(Key(columns=["x"]).asked(table=Table(["x"], [])).truth({}), True)


class LeadsTest(RuleTest):
    def test_without_gaps(self):
        table = Table(["x", "y", "z"], [([1, 2, 3], YES), ([1, 2, 4], YES), ([2, 2, 3], YES)])
        for columns, column, kept in ((["x"], "y", True), (["x"], "z", False), (["y"], "x", False), (["z"], "x", False),
                                      (["x", "z"], "y", True), ([], "y", True), ([], "x", False),
                                      (["x", "y"], "z", False)):
            self.assertIs(Leads(columns, column).asked(table).truth({}), kept)

    def test_unlike_from_a_key(self):
        table = Table(["x", "y", "z"], [([1, "a", 1], YES), ([1, "b", 2], YES)])
        self.assertIs(Leads(["x"], "y").asked(table).truth({"a": 1, "b": 1}), True)
        self.assertIs(Leads(["x"], "y").asked(table).truth({"a": 1, "b": 2}), False)
        self.assertIs(Key(["x"]).asked(table).truth({"a": 1, "b": 1}), False)

    def test_only_rows_that_are_there(self):
        table = Table(["x", "y"], [([1, 2], Same("a", 1)), (["c", 3], Opposite(Same("b", 1))), ([1, 4], NO)])
        self.leads_right(table, ["x"], "y")
        self.assertIs(Leads(["x"], "y").asked(table).truth({"a": 1, "b": 2, "c": 1}), False)
        for filling in ({"a": 1, "b": 1, "c": 1}, {"a": 2, "b": 2, "c": 1}, {"a": 1, "b": 2, "c": 2}):
            self.assertIs(Leads(["x"], "y").asked(table).truth(filling), True)

    def test_whatever_the_whole_says(self):
        rows = [([1, "a"], YES), ([1, "b"], YES)]
        for whole in (NO, Same("a", "b"), Opposite(Same("a", "b"))):
            self.assertEqual(self.leads_right(Table(["x", "y"], rows, whole), ["x"], "y"), (2, 3))

    def test_the_column_in_the_list(self):
        table = Table(["x", "y"], [(["a", 1], YES), (["b", "c"], YES)])
        self.assertEqual(self.leads_right(table, ["x"], "x")[1], 0)
        self.assertEqual(self.leads_right(table, ["y", "x"], "x")[1], 0)

    def test_a_column_twice(self):
        table = Table(["x", "y"], [(["a", 1], YES), (["b", "c"], YES)])
        self.assertEqual(self.leads_right(table, ["x", "x"], "y"), self.leads_right(table, ["x"], "y"))

    def test_of_no_columns_and_no_rows(self):
        self.leads_right(Table(["x"], [(["a"], YES), ([1], Same("b", 1))]), [], "x")
        self.assertEqual(self.leads_right(Table(["x"], []), [], "x"), (1, 0))
        self.assertEqual(self.leads_right(Table(["x"], [(["a"], YES)]), [], "x")[1], 0)

    def test_no_column(self):
        table = Table(["x", "y"], [(["a", 1], YES)])
        self.no_column("z", Leads(["z"], "x"), table)
        self.no_column("z", Leads(["x"], "z"), table)
        self.no_column("z", Leads(["x", "z"], "c"), table)
        self.no_column("c", Leads(["y", "x"], "c"), table)
        self.no_column("z", Leads([], "z"), table)
        self.no_column("a", Leads([], "a"), table)
        self.no_column("x", Leads(["x"], "y"), Table([], []))

    def test_just_as_the_words_say(self):
        chance = random.Random(32)
        kept, broken = 0, 0
        for table in drawn_tables(150, 32):
            if table.columns():
                told = self.leads_right(table, names_out_of(chance, table.columns(), chance.randint(0, 3)),
                                        chance.choice(table.columns()))
                kept, broken = kept + told[0], broken + told[1]
        self.assertGreater(min(kept, broken), 200)

    def test_arguments_by_name(self):
        self.assertIs(Leads(columns=["x"], column="x").asked(table=Table(["x"], [])).truth({}), True)


class StandsTest(RuleTest):
    def test_without_gaps(self):
        table = Table(["x", "y"], [([1, 2], YES), ([2, 1], YES)])
        other = Table(["v", "w"], [([1, 1], YES), ([2, 3], YES), ([1, 2], YES)])
        for columns, others, kept in ((["x"], ["v"], True), (["y"], ["v"], True), (["x"], ["w"], True),
                                      (["x", "y"], ["v", "w"], False), (["y", "x"], ["w", "v"], False), ([], [], True)):
            self.assertIs(Stands(columns, other, others).asked(table).truth({}), kept)
        table = Table(["x", "y"], [([1, 2], YES)])
        self.assertIs(Stands(["x", "y"], other, ["v", "w"]).asked(table).truth({}), True)
        self.assertIs(Stands(["y", "x"], other, ["w", "v"]).asked(table).truth({}), True)
        self.assertIs(Stands(["x", "y"], other, ["w", "v"]).asked(table).truth({}), False)

    def test_a_gap_of_both_is_one_gap(self):
        table, other = Table(["x"], [(["a"], YES)]), Table(["x"], [(["a"], YES), ([1], Same("b", 1))])
        self.assertEqual(self.stands_right(table, ["x"], other, ["x"])[1], 0)
        other = Table(["x"], [(["b"], Same("a", 1))])
        cond = Stands(["x"], other, ["x"]).asked(table)
        self.assertEqual(cond.gaps(), ["a", "b"])
        self.assertIs(cond.truth({"a": 1, "b": 1}), True)
        self.assertIs(cond.truth({"a": 1, "b": 2}), False)
        self.assertIs(cond.truth({"a": 2, "b": 2}), False)
        self.stands_right(table, ["x"], other, ["x"])

    def test_whatever_the_wholes_say(self):
        table = Table(["x"], [(["a"], Opposite(Same("a", 2)))], Same("a", 3))
        other = Table(["y"], [([1], YES), (["b"], YES)], Opposite(Same("b", "a")))
        cond = Stands(["x"], other, ["y"]).asked(table)
        for filling, kept in (({"a": 4, "b": 4}, True), ({"a": 3, "b": 3}, True), ({"a": 3, "b": 4}, False),
                              ({"a": 2, "b": 5}, True), ({"a": 1, "b": 5}, True), ({"a": 4, "b": 5}, False)):
            self.assertIs(cond.truth(filling), kept)
        self.stands_right(table, ["x"], other, ["y"])
        self.stands_right(Table(["x"], table.rows(), NO), ["x"], Table(["y"], other.rows(), NO), ["y"])

    def test_rows_of_the_other_that_are_not_there(self):
        table = Table(["x"], [([1], YES), ([2], Same("a", 1))])
        other = Table(["y"], [([1], Opposite(Same("a", 3))), ([2], NO)])
        cond = Stands(["x"], other, ["y"]).asked(table)
        self.assertEqual([cond.truth({"a": value}) for value in (0, 1, 2, 3)], [True, False, True, False])

    def test_of_no_columns(self):
        table, other = Table(["x"], [(["a"], Same("b", 1))]), Table(["y"], [(["c"], Same("d", 1))])
        cond = Stands([], other, []).asked(table)
        self.assertIs(cond.truth({"a": 1, "b": 1, "c": 2, "d": 1}), True)
        self.assertIs(cond.truth({"a": 1, "b": 1, "c": 2, "d": 2}), False)
        self.assertIs(cond.truth({"a": 1, "b": 2, "c": 2, "d": 2}), True)
        self.stands_right(table, [], other, [])

    def test_of_no_rows(self):
        some, none = Table(["x"], [(["a"], Same("b", 1))]), Table(["x"], [])
        self.assertEqual(self.stands_right(none, ["x"], some, ["x"])[1], 0)
        self.assertIs(Stands(["x"], none, ["x"]).asked(some).truth({"a": 1, "b": 1}), False)
        self.assertIs(Stands(["x"], none, ["x"]).asked(some).truth({"a": 1, "b": 2}), True)
        self.assertEqual(self.stands_right(none, ["x"], none, ["x"]), (1, 0))

    def test_a_column_twice(self):
        table = Table(["x", "y"], [(["a", 1], YES), ([2, "b"], Same("a", 3))])
        other = Table(["v", "w"], [(["b", "a"], YES), (["a", "a"], YES)])
        for columns, others in ((["x", "x"], ["v", "w"]), (["x", "y"], ["v", "v"]), (["y", "x", "y"], ["w", "v", "v"])):
            kept, broken = self.stands_right(table, columns, other, others)
            self.assertGreater(min(kept, broken), 0)

    def test_in_the_table_itself(self):
        table = Table(["x", "y"], [(["a", 1], YES), ([2, "b"], Same("a", 1))])
        self.assertEqual(self.stands_right(table, ["x", "y"], table, ["x", "y"])[1], 0)
        kept, broken = self.stands_right(table, ["x"], table, ["y"])
        self.assertGreater(min(kept, broken), 0)

    def test_no_column(self):
        table, other = Table(["x", "y"], [(["a", 1], YES)]), Table(["v", "w"], [(["b", 1], YES)])
        self.no_column("v", Stands(["v"], other, ["v"]), table)
        self.no_column("x", Stands(["x"], other, ["x"]), table)
        self.no_column("z", Stands(["x", "z"], other, ["a", "v"]), table)
        self.no_column("z", Stands(["x", "y"], other, ["z", "a"]), table)
        self.no_column("w", Stands(["x", "w", "v"], other, ["v", "w", "x"]), table)

    def test_lists_of_unlike_length(self):
        table, other = Table(["x", "y"], [(["a", 1], YES)]), Table(["v", "w"], [])
        for columns, others in ((["x"], []), ([], ["v"]), (["x", "y"], ["w"]), (["x"], ["v", "v"]),
                                (["x", "x", "y"], ["w", "v"])):
            refused(self, Unlike, Stands(columns, other, others).asked, table)
            refused(self, Unlike, Stands(columns, other, others).asked, Table(["x", "y"], []))

    def test_no_column_ahead_of_unlike(self):
        table, other = Table(["x"], []), Table(["y"], [])
        self.no_column("z", Stands(["x", "z"], other, ["y"]), table)
        self.no_column("z", Stands(["x"], other, ["y", "z"]), table)
        self.no_column("z", Stands([], other, ["z"]), table)
        self.no_column("b", Stands(["x", "b"], other, ["a"]), table)

    def test_just_as_the_words_say(self):
        chance = random.Random(33)
        kept, broken = 0, 0
        for number in range(200):
            columns, others = ["x", "y", "a"][:chance.randint(0, 3)], ["y", "z"][:chance.randint(0, 2)]
            table = drawn_table(chance, columns, chance.randint(0, 4), ["a", "b"], [0, 1])
            other = drawn_table(chance, others, chance.randint(0, 4), ["b", "c"], [1, 2])
            many = chance.randint(0, 3) if table.columns() and other.columns() else 0
            told = self.stands_right(table, names_out_of(chance, table.columns(), many), other,
                                     names_out_of(chance, other.columns(), many))
            kept, broken = kept + told[0], broken + told[1]
        self.assertGreater(min(kept, broken), 200)

    def test_arguments_by_name(self):
        table = Table(["x"], [])
        self.assertIs(Stands(columns=["x"], other=table, others=["x"]).asked(table=table).truth({}), True)


class KeptTest(unittest.TestCase):
    def test_a_rule_keeps_no_list(self):
        columns, others = ["x"], ["x"]
        table = Table(["x", "y"], [([1, "a"], YES), ([1, "b"], YES)])
        rules = [Key(columns), Leads(columns, "y"), Stands(columns, table, others)]
        before = [shape(rule.asked(table)) for rule in rules]
        columns.append("y")
        others[0] = "z"
        self.assertEqual([shape(rule.asked(table)) for rule in rules], before)
        self.assertEqual([rule.asked(table).truth({"a": 1, "b": 2}) for rule in rules], [False, False, True])

    def test_the_list_handed_in_stays(self):
        columns, others = ["x", "y", "x"], ["y", "x", "y"]
        table = Table(["x", "y"], [([1, "a"], YES), ([1, "b"], YES)])
        for rule in (Key(columns), Leads(columns, "y"), Stands(columns, table, others)):
            rule.asked(table)
        self.assertEqual((columns, others), (["x", "y", "x"], ["y", "x", "y"]))

    def test_one_rule_of_several_tables(self):
        rule = Key(["x"])
        rows = [([1, 2], YES), ([1, 3], YES)]
        one, other = Table(["x", "y"], rows), Table(["y", "x"], rows)
        self.assertEqual([rule.asked(table).truth({}) for table in (one, other, one)], [False, True, False])
        refused(self, NoColumn, rule.asked, Table(["y"], []))
        self.assertIs(rule.asked(other).truth({}), True)

    def test_classes(self):
        table = Table([], [])
        for rule, others in ((Key([]), (Leads, Stands)), (Leads([], "x"), (Key, Stands)),
                             (Stands([], table, []), (Key, Leads))):
            self.assertIsInstance(rule, Rule)
            self.assertNotIsInstance(rule, others)


class RuledTest(unittest.TestCase):
    def ruled_right(self, table, rules, kepts, others=()):
        """Rules a table; kepts are functions that tell whether a filling keeps each rule. The lists that come."""
        before = table_shape(table)
        told = ruled(table, rules)
        self.assertIsInstance(told, Table)
        self.assertEqual(told.columns(), table.columns())
        self.assertEqual([(cells, shape(cond)) for cells, cond in told.rows()],
                         [(cells, shape(cond)) for cells, cond in table.rows()])
        self.assertEqual(table_shape(table), before)
        gaps = [gap for each in (table, *others) for gap in each.gaps()]
        values = [value for each in (table, *others) for value in each.standing()]
        self.assertLessEqual(set(told.gaps()), set(gaps))
        self.assertLessEqual(set(told.standing()), set(values))
        lists = []
        for filling in some_fillings(gaps, values):
            kept = table.whole().truth(filling) and all(kept(filling) for kept in kepts)
            self.assertIs(told.whole().truth(filling), kept)
            lists.append(told.filled(filling))
            self.assertEqual(lists[-1], filled_by_words(table, filling) if kept else None)
        return lists

    def test_by_none(self):
        for table in drawn_tables(40, 34):
            self.ruled_right(table, [], [])
        self.assertEqual(ruled(Table(["x"], [([1], YES)]), []).filled({}), [(1,)])
        self.assertIsNone(ruled(Table(["x"], [([1], YES)], NO), []).filled({}))

    def test_by_one(self):
        table = Table(["x", "y"], [([1, "a"], YES), ([1, "b"], YES)], Opposite(Same("a", 5)))
        told = ruled(table, [Key(["x"])])
        self.assertEqual(told.filled({"a": 3, "b": 3}), [(1, 3)])
        self.assertIsNone(told.filled({"a": 3, "b": 4}))
        self.assertIsNone(told.filled({"a": 5, "b": 5}))
        self.ruled_right(table, [Key(["x"])], [lambda filling: key_kept(table, ["x"], filling)])

    def test_by_several(self):
        table = Table(["x", "y"], [([1, "a"], YES), ([1, "b"], Same("c", 1)), (["b", 2], YES)], Opposite(Same("a", 5)))
        other = Table(["z"], [([1], YES), (["d"], YES)], NO)
        kepts = [lambda filling: leads_kept(table, ["x"], "y", filling),
                 lambda filling: stands_kept(table, ["x"], other, ["z"], filling),
                 lambda filling: key_kept(table, ["y"], filling)]
        rules = [Leads(["x"], "y"), Stands(["x"], other, ["z"]), Key(["y"])]
        for many in range(4):
            lists = self.ruled_right(table, rules[:many], kepts[:many], [other])
            self.assertGreater(len([1 for rows in lists if rows]), 0)
        self.assertEqual(ruled(table, rules[:2]).gaps(), ["a", "b", "c", "d"])
        self.ruled_right(table, rules[::-1], kepts, [other])
        self.ruled_right(table, rules + rules, kepts, [other])

    def test_a_rule_that_no_filling_keeps(self):
        table = Table(["x", "y"], [([1, 2], YES), ([1, 3], YES), (["a", "b"], YES)])
        self.assertEqual(set(map(str, self.ruled_right(table, [Key(["x"])], [lambda filling: False]))), {"None"})

    def test_ruled_again(self):
        table = Table(["x", "y"], [([1, "a"], YES), ([1, "b"], Same("c", 1))], OneOf([Same("a", 1), Same("c", 1)]))
        kepts = [lambda filling: key_kept(table, ["x"], filling),
                 lambda filling: leads_kept(table, ["y"], "x", filling)]
        self.ruled_right(ruled(table, [Key(["x"])]), [Leads(["y"], "x")], kepts)
        for whole in (None, NO, Same("a", 1), AllOf([Same("a", 1), Same("b", 1)])):
            told = Table(["x", "y"], table.rows(), whole)
            for turn in range(600):
                told = ruled(told, [Key(["x"])])
            meant = ruled(Table(["x", "y"], table.rows(), whole), [Key(["x"])])
            for filling in kinds(["a", "b", "c"], [1]):
                self.assertEqual(told.filled(filling), meant.filled(filling))

    def test_refused_as_the_first_rule_that_is(self):
        table, other = Table(["x"], [(["a"], YES)], NO), Table(["y"], [])
        for rules, name in (([Key(["z"])], "z"), ([Key(["x"]), Key(["b"]), Key(["a"])], "b"),
                            ([Key(["x"]), Leads(["x"], "c"), Stands(["x"], other, [])], "c")):
            self.assertEqual(refused(self, NoColumn, ruled, table, rules).name, name)
        refused(self, Unlike, ruled, table, [Stands(["x"], other, [])])
        refused(self, Unlike, ruled, table, [Key(["x"]), Stands(["x"], other, []), Key(["z"])])
        self.assertEqual(refused(self, NoColumn, ruled, table, [Key(["z"]), Stands(["x"], other, [])]).name, "z")
        self.assertEqual(refused(self, NoColumn, ruled, table, [Stands(["x"], other, ["x"])]).name, "x")

    def test_just_as_the_words_say(self):
        chance = random.Random(35)
        there = 0
        for table in drawn_tables(100, 35):
            columns = table.columns()
            first, second = names_out_of(chance, columns, 1), names_out_of(chance, columns, 2)
            other = drawn_table(chance, ["y"], 3, ["a", "d"], [0, 1])
            lists = self.ruled_right(table, [Key(second), Stands(first, other, ["y"] * len(first))],
                                     [lambda filling: key_kept(table, second, filling),
                                      lambda filling: stands_kept(table, first, other, ["y"] * len(first), filling)],
                                     [other])
            there += len([1 for rows in lists if rows])
        self.assertGreater(there, 200)

    def test_the_lists_handed_in_stay(self):
        rules = [Key(["x"]), Key([])]
        given = list(rules)
        table = Table(["x"], [(["a"], YES)])
        told = ruled(table, rules)
        self.assertEqual(rules, given)
        before = table_shape(told)
        rules.clear()
        told.rows().clear()
        told.columns().append("y")
        self.assertEqual(table_shape(told), before)

    def test_arguments_by_name(self):
        self.assertEqual(ruled(table=Table(["x"], [([1], YES)]), rules=[Key(["x"])]).filled({}), [(1,)])


class LongTest(unittest.TestCase):
    """Tables as long and conditions as deep as may be, and what ruled tells of them handed on."""

    def table(self):
        columns = ["c" + chr(97 + place) for place in range(8)]
        rows = [(["a", place % 3, "b", "a", 1, place % 2, "b", 2], cond) for place, cond in enumerate(long_conds(24))]
        return Table(columns, rows)

    def other(self):
        return Table(["x", "y"], [(["a", place % 4], cond) for place, cond in enumerate(long_conds(24))])

    def test_asked(self):
        table, other = self.table(), self.other()
        cases = [(Key([name]), lambda filling, name=name: key_kept(table, [name], filling))
                 for name in table.columns()[:3]]
        cases.append((Leads(["ca", "cc"], "cb"), lambda filling: leads_kept(table, ["ca", "cc"], "cb", filling)))
        cases.append((Stands(["ca", "cb"], other, ["x", "y"]),
                      lambda filling: stands_kept(table, ["ca", "cb"], other, ["x", "y"], filling)))
        for rule, kept in cases:
            cond = rule.asked(table)
            for values in itertools.product(range(5), repeat=2):
                filling = dict(zip(["a", "b"], values))
                self.assertIs(cond.truth(filling), kept(filling))

    def test_handed_on(self):
        table = self.table()
        told = ruled(table, [Leads([name], "cb") for name in table.columns() if name != "cf"] + [Key(["cb", "cf"])])
        self.assertGreater(told.whole().atoms(), 100000)
        fillings = kinds(told.gaps(), told.standing())
        lists = [rows for rows in map(told.filled, fillings) if rows is not None]
        self.assertEqual(lists, [table.filled(filling) for filling in fillings if told.whole().truth(filling)])
        row = max(lists)[0]
        self.assertEqual(maybe(told, row)[0], "may")
        self.assertEqual(sure(told, row)[0] == "sure", all(row in rows for rows in lists))
        self.assertEqual(sure_rows(told), [row for row in lists[0] if all(row in rows for rows in lists)])
        self.assertGreater(sum(tally(told, row)), 0)
        self.assertIn(less(told, told).filled(fillings[0]), ([], None))


if __name__ == "__main__":
    unittest.main()
