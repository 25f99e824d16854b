"""The tally of a row, and rows counted in a stock of values."""

import itertools
import random
import unittest

from maybetables.conds import AllOf, OneOf, Opposite, Same, Truth
from maybetables.counting import counted, tally
from maybetables.errors import TooFew, TooMany, Unlike
from maybetables.fillings import bound, kinds
from maybetables.sureness import maybe
from maybetables.tables import Table
from tests.samples import HIGH, drawn_tables, filled_by_words, refused, table_shape

YES, NO = Truth(True), Truth(False)


def is_there(table, row, filling):
    """Whether the whole holds at a filling and the filled list has the row."""
    rows = filled_by_words(table, filling)
    return rows is not None and row in rows


def values_of(table, row):
    """The values of a table and a row, rising, each once."""
    return sorted(set(table.standing()) | set(row))


def tally_by_words(table, row):
    """The tally of a row, by the words of 27."""
    values = values_of(table, row)
    told = [0] * (len(table.gaps()) + 1)
    for filling in kinds(table.gaps(), values):
        if is_there(table, row, filling):
            told[len({value for value in filling.values() if value not in values})] += 1
    return told


def counted_by_words(table, row, stock):
    """At how many fillings out of a stock the row is there, one filling after another."""
    values = values_of(table, row)
    values += [1000 + number for number in range(stock - len(values))]
    told = 0
    for choice in itertools.product(values, repeat=len(table.gaps())):
        told += is_there(table, row, dict(zip(table.gaps(), choice)))
    return told


class CountTest(unittest.TestCase):
    def counted_right(self, table, row, further=3):
        """Counts in stocks from the least one on; the tally that they go by."""
        told = tally(table, row)
        self.assertIs(type(told), list)
        self.assertEqual(told, tally_by_words(table, row))
        least = len(values_of(table, row))
        for stock in range(least, least + further):
            number = counted(table, row, stock)
            self.assertIs(type(number), int)
            self.assertEqual(number, counted_by_words(table, row, stock))
        if least:
            self.assertEqual(refused(self, TooFew, counted, table, row, least - 1).wanted, least)
        return told


class TallyTest(CountTest):
    def test_without_gaps(self):
        table = Table(["x"], [([1], YES), ([2], NO)])
        self.assertEqual(tally(table, (1,)), [1])
        self.assertEqual(tally(table, (2,)), [0])
        self.assertEqual(tally(table, (3,)), [0])
        self.assertEqual(tally(Table([], []), ()), [0])
        self.assertEqual(tally(Table([], [([], YES)]), ()), [1])

    def test_one_gap(self):
        self.assertEqual(tally(Table(["x"], [(["a"], YES)]), (7,)), [1, 0])
        self.assertEqual(tally(Table(["x"], [([7], Same("a", "a"))]), (7,)), [1, 1])
        self.assertEqual(tally(Table(["x"], [([7], Opposite(Same("a", 7)))]), (7,)), [0, 1])
        self.assertEqual(tally(Table(["x"], [([7], Same("a", 8))]), (7,)), [1, 0])
        self.assertEqual(tally(Table(["x"], [([7], Same("a", 8))]), (9,)), [0, 0])

    def test_the_values_of_the_row_count_as_values(self):
        table = Table(["x", "y"], [(["a", "b"], YES), ([1, 2], YES)])
        self.assertEqual(tally(table, (1, 2)), [4, 5, 1])
        self.assertEqual(tally(table, (3, 3)), [1, 0, 0])
        self.assertEqual(tally(Table([], [([], Same("a", "b"))]), ()), [0, 1, 0])

    def test_a_row_of_values_without_rows_in_the_table(self):
        self.assertEqual(tally(Table(["x"], [], Same("a", 1)), (2,)), [0, 0])

    def test_unlike_fresh_values(self):
        table = Table(["x"], [([1], YES)], AllOf([Opposite(Same("a", "b")), Same("c", "c")]))
        self.assertEqual(tally(table, (1,)), tally_by_words(table, (1,)))
        self.assertEqual(tally(table, (1,)), [0, 4, 5, 1])
        self.assertEqual(tally(Table([], [([], YES)], AllOf([Same(*"ab"), Same(*"bc")])), ()), [0, 1, 0, 0])

    def test_only_where_the_whole_holds(self):
        self.assertEqual(tally(Table(["x"], [([1], YES)], Same("a", 1)), (1,)), [1, 0])
        self.assertEqual(tally(Table(["x"], [([1], YES)], AllOf([Same("a", 1), NO])), (1,)), [0, 0])

    def test_a_row_that_two_rows_bring_counts_once(self):
        self.assertEqual(tally(Table(["x"], [([1], YES), (["a"], YES), ([1], Same("a", 1))]), (1,)), [1, 1])

    def test_all_ways_add_up(self):
        for gaps, values in (("abcdef", ()), ("abcde", (1,)), ("abcd", (0, 1, 2)), ("abc", range(8)),
                             ("ab", range(30))):
            whole = OneOf([YES] + [Same(gap, value) for gap in gaps for value in list(values) + [gap]])
            table = Table([], [([], YES)], whole)
            told = tally(table, ())
            self.assertEqual(told, tally_by_words(table, ()))
            for stock in (len(values), len(values) + 1, 50, 10 ** 30):
                self.assertEqual(counted(table, (), stock), stock ** len(gaps))


class CountedTest(CountTest):
    def test_in_small_stocks(self):
        self.counted_right(Table(["x"], [(["a"], YES), ([1], Same("b", "a"))]), (1,), 5)
        table = Table(["x", "y"], [(["a", "b"], Opposite(Same("a", "c")))], OneOf([Same("c", 1)]))
        self.counted_right(table, (2, 2), 4)
        self.counted_right(Table([], [([], Opposite(Same("a", "b")))]), (), 6)
        self.counted_right(Table([], []), (), 3)

    def test_by_the_rule(self):
        table = Table(["x"], [([1], Opposite(Same("a", "b")))], Opposite(Same("a", 2)))
        self.assertEqual(tally(table, (1,)), [1, 3, 1])
        self.assertEqual(counted(table, (1,), 2), 1)
        self.assertEqual(counted(table, (1,), 3), 4)
        self.assertEqual(counted(table, (1,), 4), 9)
        self.assertEqual(counted(table, (1,), 5), 16)
        self.assertEqual(counted(table, (1,), 10 ** 20), (10 ** 20 - 1) ** 2)

    def test_a_stock_of_none(self):
        self.assertEqual(counted(Table([], [([], YES)]), (), 0), 1)
        self.assertEqual(counted(Table([], [([], Same("a", "a"))]), (), 0), 0)
        self.assertEqual(counted(Table([], [([], Same("a", "a"))]), (), 1), 1)
        self.assertEqual(counted(Table([], [([], Opposite(Same("a", "b")))]), (), 1), 0)

    def test_too_few(self):
        table = Table(["x"], [([1], Same("a", 2))], Opposite(Same("a", 3)))
        for stock in (2, 1, 0, -1, -HIGH):
            self.assertEqual(refused(self, TooFew, counted, table, (1,), stock).wanted, 3)
            self.assertEqual(refused(self, TooFew, counted, table, (4,), stock + 1).wanted, 4)
        self.assertIs(type(refused(self, TooFew, counted, table, (1,), 2).wanted), int)
        self.assertEqual(refused(self, TooFew, counted, Table([], []), (), -1).wanted, 0)
        self.assertEqual(counted(table, (1,), 3), 1)

    def test_the_row_has_its_part_in_what_is_wanted(self):
        table = Table(["x", "y"], [(["a", "b"], YES)])
        self.assertEqual(refused(self, TooFew, counted, table, (4, 5), 1).wanted, 2)
        self.assertEqual(refused(self, TooFew, counted, table, (4, 4), 0).wanted, 1)
        self.assertEqual(counted(table, (4, 5), 2), 1)
        self.assertEqual(counted(table, (4, 4), 1), 1)
        self.assertEqual(refused(self, TooFew, counted, Table(["x"], [], Same("a", 1)), (2,), 1).wanted, 2)

    def test_a_row_of_another_length(self):
        for columns in ([], ["x"], ["x", "y"]):
            for length in range(4):
                if length != len(columns):
                    refused(self, Unlike, tally, Table(columns, []), tuple(range(length)))
                    refused(self, Unlike, counted, Table(columns, []), tuple(range(length)), 9)

    def test_too_many(self):
        table = Table(["x"], [([gap], YES) for gap in "abcd"] + [([value], YES) for value in range(3)])
        self.assertEqual((bound(4, 3), bound(4, 4)), (840, 1680))
        self.assertEqual(tally(table, (2,)), tally_by_words(table, (2,)))
        refused(self, TooMany, tally, table, (3,))
        refused(self, TooMany, counted, table, (3,), 9)
        for rows in ([], [([1], NO)]):
            table = Table(["x"], rows, AllOf([Same("a", 0), Same("b", 1), Same("c", 2), Same("d", "d")]))
            self.assertEqual(len(tally(table, (2,))), 5)
            refused(self, TooMany, tally, table, (3,))

    def test_in_their_order(self):
        table = Table(["x"], [([gap], YES) for gap in "abcdefg"])
        refused(self, Unlike, tally, table, ())
        refused(self, Unlike, counted, table, (1, 2), 0)
        refused(self, Unlike, counted, Table(["x"], [([1], YES)]), (), 0)
        refused(self, TooMany, counted, table, (1,), 0)
        refused(self, TooMany, counted, table, (1,), -5)

    def test_just_as_the_words_say(self):
        chance = random.Random(8)
        told = []
        for table in drawn_tables(80, 21):
            rows = list(itertools.product(table.standing() + [5], repeat=len(table.columns())))
            for row in chance.sample(rows, min(len(rows), 4)):
                numbers = self.counted_right(table, row, 2)
                self.assertIs(sum(numbers) > 0, maybe(table, row)[0] == "may")
                told.append(sum(numbers))
        self.assertGreater(len([number for number in told if number]), 40)

    def test_values_of_sixty_figures(self):
        table = Table(["x"], [(["a"], YES), ([-HIGH], Same("b", HIGH))])
        self.counted_right(table, (-HIGH,))
        self.counted_right(table, (HIGH,))

    def test_arguments_by_name(self):
        table = Table(["x"], [(["a"], YES)])
        self.assertEqual(tally(table=table, row=(1,)), [1, 0])
        self.assertEqual(counted(table=table, row=(1,), stock=5), 1)

    def test_what_is_told_belongs_to_whoever_asked(self):
        table = Table(["x"], [(["a"], YES)])
        before = table_shape(table)
        tally(table, (1,)).append(9)
        tally(table, (1,))[0] = 4
        self.assertEqual(tally(table, (1,)), [1, 0])
        self.assertEqual(table_shape(table), before)


if __name__ == "__main__":
    unittest.main()
