"""Whether two tables are the same everywhere."""

import random
import unittest

from maybetables.choosing import narrowed
from maybetables.conds import AllOf, OneOf, Opposite, Same, Truth
from maybetables.errors import TooMany, Unlike
from maybetables.fillings import bound
from maybetables.pairing import less, together
from maybetables.rules import Key, Leads, ruled
from maybetables.sameness import everywhere
from maybetables.tables import Table
from tests.samples import (HIGH, drawn_table, drawn_tables, filled_by_words, filling_right, in_order, layered,
                           paper_right, refused, retold, some_fillings, spoiled, table_shape)

YES, NO = Truth(True), Truth(False)


def among(cells, cond, columns, other):
    """For a row of one table, the condition that the other has it where it is there, by the words of 31."""
    parts = [AllOf([second] + [Same(cell, in_order(other.columns(), [name], others)[0])
                               for name, cell in zip(columns, cells)]) for others, second in other.rows()]
    return OneOf([Opposite(cond)] + parts)


def same_cond(one, other):
    """The condition that two tables are filled alike, by the words of 31."""
    rows = [among(cells, cond, one.columns(), other) for cells, cond in one.rows()]
    rows += [among(cells, cond, other.columns(), one) for cells, cond in other.rows()]
    return OneOf([AllOf([Opposite(one.whole()), Opposite(other.whole())]),
                  AllOf([one.whole(), other.whole()] + rows)])


def alike_at(one, other, filling):
    """Whether both wholes fail at a filling, or both hold and the filled lists are alike."""
    first, second = filled_by_words(one, filling), filled_by_words(other, filling)
    if first is None or second is None:
        return first is second
    return first == sorted(in_order(other.columns(), one.columns(), row) for row in second)


class EverywhereTest(unittest.TestCase):
    def told_right(self, one, other, step=1):
        """Whether two tables are told to be the same, when what is told with it is looked through."""
        before = table_shape(one), table_shape(other)
        told = everywhere(one, other)
        self.assertIs(type(told), tuple)
        self.assertEqual(len(told), 2)
        self.assertEqual((table_shape(one), table_shape(other)), before)
        gaps = set(one.gaps() + other.gaps())
        if told[0] == "same":
            paper_right(self, same_cond(one, other), told[1])
            for filling in some_fillings(gaps, one.standing() + other.standing())[::step]:
                self.assertIs(alike_at(one, other, filling), True)
            return True
        self.assertEqual(told[0], "parted")
        filling_right(self, told[1], gaps)
        self.assertIs(alike_at(one, other, told[1]), False)
        return False

    def both_ways(self, one, other):
        told = self.told_right(one, other)
        self.assertIs(self.told_right(other, one), told)
        return told

    def same(self, one, other):
        self.assertIs(self.both_ways(one, other), True)

    def parted(self, one, other):
        self.assertIs(self.both_ways(one, other), False)

    def test_without_gaps(self):
        one = Table(["x", "y"], [([1, 2], YES), ([3, 4], YES)])
        self.same(one, one)
        self.same(one, Table(["x", "y"], [([3, 4], YES), ([1, 2], YES), ([3, 4], YES), ([5, 5], NO)]))
        self.parted(one, Table(["x", "y"], [([1, 2], YES)]))
        self.parted(one, Table(["x", "y"], [([1, 2], YES), ([3, 4], NO)]))
        self.parted(one, Table(["x", "y"], [([2, 1], YES), ([3, 4], YES)]))
        self.assertEqual(everywhere(one, Table(["x", "y"], [])), ("parted", {}))

    def test_columns_in_another_order(self):
        one = Table(["x", "y"], [(["a", 2], YES), ([3, "b"], Same("a", 1))])
        other = Table(["y", "x"], [([2, "a"], YES), (["b", 3], Same("a", 1))])
        self.same(one, other)
        self.parted(one, Table(["y", "x"], one.rows()))
        self.same(Table(["x", "y"], [(["a", "a"], YES)]), Table(["y", "x"], [(["a", "a"], YES)]))
        columns = ["z", "x", "y"]
        self.same(Table(columns, [([1, "a", 3], YES)]), Table(["y", "z", "x"], [([3, 1, "a"], YES)]))
        self.parted(Table(columns, [([1, "a", 3], YES)]), Table(["y", "z", "x"], [([1, 3, "a"], YES)]))

    def test_gaps_that_have_the_same_names_are_one(self):
        self.same(Table(["x"], [(["a"], YES)]), Table(["x"], [(["a"], YES)]))
        self.parted(Table(["x"], [(["a"], YES)]), Table(["x"], [(["b"], YES)]))
        self.assertEqual(sorted(everywhere(Table(["x"], [(["a"], YES)]), Table(["x"], [(["b"], YES)]))[1]), ["a", "b"])

    def test_by_the_whole(self):
        one = Table(["x"], [(["a"], YES)], Same("a", "b"))
        self.same(one, Table(["x"], [(["b"], YES)], Same("b", "a")))
        self.parted(one, Table(["x"], [(["b"], YES)]))
        self.parted(one, Table(["x"], [(["a"], YES)], Opposite(Same("a", "b"))))
        self.same(Table(["x"], [(["a"], YES)], Same("a", 1)), Table(["x"], [([1], YES)], Same("a", 1)))
        self.parted(Table(["x"], [(["a"], YES)], Same("a", 1)), Table(["x"], [([1], YES)]))

    def test_where_no_filling_keeps_a_whole(self):
        never = AllOf([Same("a", 1), Same("a", 2)])
        self.same(Table(["x"], [(["b"], YES)], never), Table(["x"], [([7], YES)], NO))
        self.parted(Table(["x"], [(["b"], YES)], never), Table(["x"], [(["b"], YES)]))
        self.parted(Table(["x"], [], NO), Table(["x"], []))
        self.assertEqual(everywhere(Table([], [], NO), Table([], []))[0], "parted")

    def test_no_rows_is_not_no_list(self):
        self.parted(Table(["x"], [([1], NO)]), Table(["x"], [([1], NO)], NO))

    def test_a_row_parted_in_two(self):
        one = Table(["x"], [(["a"], YES)])
        self.same(one, Table(["x"], [(["a"], Same("a", 1)), (["a"], Opposite(Same("a", 1)))]))
        self.same(one, Table(["x"], [([1], Same("a", 1)), (["a"], Opposite(Same("a", 1)))]))
        self.same(one, Table(["x"], [(["a"], Same("b", 1)), (["a"], Opposite(Same("b", 1)))]))
        self.parted(one, Table(["x"], [(["a"], Same("b", 1)), (["a"], Opposite(Same("b", 2)))][:1]))
        self.same(one, Table(["x"], [(["a"], Opposite(Same("b", 1))), (["a"], Opposite(Same("b", 2)))]))

    def test_a_row_that_another_one_brings(self):
        rows = [(["a"], YES), (["b"], YES)]
        self.same(Table(["x"], rows), Table(["x"], rows + [(["a"], Same("c", 1))]))
        self.same(Table(["x"], rows), Table(["x"], rows + [([1], Same("a", 1))]))
        self.parted(Table(["x"], rows), Table(["x"], rows + [([1], Same("c", 1))]))
        self.parted(Table(["x"], rows + [([2], Same("c", 1))]), Table(["x"], rows + [([1], Same("c", 1))]))

    def test_of_no_columns_and_no_rows(self):
        unit, empty = Table([], [([], Same("a", 1))]), Table([], [])
        self.same(unit, unit)
        self.same(empty, empty)
        self.same(unit, Table([], [([], AllOf([Same("a", 1), Same("b", "b")]))]))
        self.parted(unit, empty)
        self.same(Table(["x"], []), Table(["x"], [(["a"], NO)]))
        self.assertEqual(everywhere(Table([], [([], YES)]), empty), ("parted", {}))

    def test_a_filling_has_all_gaps_of_both(self):
        one = Table(["x"], [(["a"], Same("b", 1)), (["c"], NO)])
        for other in (Table(["x"], []), Table(["x"], [(["d"], NO)]), Table(["x"], [(["d"], YES)]),
                      Table(["x"], [], OneOf([YES, Same("e", "e")]))):
            self.parted(one, other)
        self.parted(Table(["x"], [(["a"], YES)]), Table(["x"], []))

    def test_a_gap_called_like_a_column(self):
        self.same(Table(["a", "b"], [(["b", "a"], YES)]), Table(["b", "a"], [(["a", "b"], YES)]))
        self.parted(Table(["a", "b"], [(["b", "a"], YES)]), Table(["b", "a"], [(["b", "a"], YES)]))

    def test_other_columns(self):
        for columns, others in ((["x"], ["y"]), (["x"], []), ([], ["x"]), (["x", "y"], ["x"]), (["y"], ["x", "y"]),
                                (["x", "y"], ["y", "z"])):
            refused(self, Unlike, everywhere, Table(columns, []), Table(others, []))
            refused(self, Unlike, everywhere, Table(columns, [], NO), Table(others, [], NO))

    def test_too_many(self):
        self.assertEqual((bound(4, 3), bound(4, 4)), (840, 1680))
        one = Table(["x"], [([gap], YES) for gap in "ab"] + [([value], YES) for value in (0, 1)])
        other = Table(["x"], [([gap], YES) for gap in "bcd"] + [([value], YES) for value in (1, 2)])
        more = Table(["x"], other.rows() + [([3], NO)])
        self.parted(one, other)
        refused(self, TooMany, everywhere, one, more)
        refused(self, TooMany, everywhere, more, one)
        refused(self, TooMany, everywhere, Table(["x"], [([gap], NO) for gap in "abcd"], NO),
                Table(["x"], [([gap], NO) for gap in "defg"], NO))
        wide = Table(["x"], [([gap], NO) for gap in "abcdefg"])
        refused(self, TooMany, everywhere, wide, wide)
        refused(self, TooMany, everywhere, wide, Table(["x"], []))
        refused(self, TooMany, everywhere, Table(["x"], []), wide)

    def test_unlike_ahead_of_too_many(self):
        rows = [([gap], YES) for gap in "abcdefg"]
        refused(self, Unlike, everywhere, Table(["x"], rows), Table(["y"], rows))

    def test_as_wide_as_may_be(self):
        for gaps, values in (("a", range(30)), ("ab", range(30)), ("abc", range(8)), ("abcd", range(3)),
                             ("abcde", [7])):
            sames = [Same(gap, value) for gap in gaps for value in values]
            rows = [([gap], OneOf([Opposite(AllOf([same])) for same in sames] + [same for same in sames]))
                    for gap in gaps]
            one = Table(["x"], rows)
            self.assertIs(self.told_right(one, Table(["x"], [([gap], YES) for gap in gaps][::-1])), True)
            self.assertIs(self.told_right(one, Table(["x"], rows[1:])), False)

    def test_as_long_and_as_deep_as_may_be(self):
        cond = AllOf([layered(OneOf([Same("a", number % 8), Opposite(Same("a", number % 8))]), 16)
                      for number in range(100)])
        columns = ["c" + chr(97 + place) for place in range(8)]
        rows = [(["a", "b", place % 3, "c", 1, 2, "b", place % 5], cond) for place in range(24)]
        one = Table(columns, rows, cond)
        self.assertEqual(bound(len(one.gaps()), len(one.standing())), 990)
        self.assertIs(self.told_right(one, narrowed(Table(columns, rows[::-1]), columns[::-1]), 100), True)
        self.assertIs(self.told_right(one, Table(columns, rows[:14])), False)
        self.assertIs(self.told_right(one, Table(columns, [(row, Same("b", 7)) for row, cond in rows])), False)

    def test_thirty_values_in_each(self):
        one = Table(["x"], [(["a"], YES)], OneOf([Same("a", value) for value in range(30)]))
        other = Table(["x"], [(["a"], YES)], OneOf([Same("a", value) for value in range(25, 55)]))
        self.parted(one, other)
        each = AllOf([OneOf([Same("a", value), Opposite(Same("a", value))]) for value in range(30, 60)])
        self.same(one, Table(["x"], one.rows(), AllOf([one.whole(), each])))

    def test_what_ruled_tells(self):
        table = Table(["x", "y"], [([1, "a"], YES), ([1, "b"], YES), (["c", 2], YES)])
        self.same(ruled(table, [Leads(["x"], "y")]), ruled(table, [Key(["x"])]))
        self.parted(ruled(table, [Leads(["x"], "y")]), ruled(table, [Key(["y"])]))
        self.parted(ruled(table, [Key(["x"])]), table)
        self.same(ruled(table, [Key(["x", "y"])]), table)

    def test_what_ruled_tells_of_long_tables(self):
        columns = ["c" + chr(97 + place) for place in range(8)]
        conds = [AllOf([OneOf([Same("a", number % 3), Opposite(Same("b", number % 2 + place % 2))])
                        for number in range(100)]) for place in range(24)]
        rows = [(["a", place % 2, "b", "a", 1, 2, "b", place % 3], cond) for place, cond in enumerate(conds)]
        table = Table(columns, rows)
        rules = [Key(["ca"]), Key(["cb", "cc"]), Leads(["ca"], "cb"), Leads(["cd", "cg"], "ch")]
        one, other = ruled(table, rules), ruled(table, rules[::-1])
        self.assertGreater(one.whole().atoms(), 100000)
        self.assertEqual(everywhere(one, other)[0], "same")
        self.assertEqual(everywhere(one, table)[0], "parted")

    def test_of_what_asks_tell(self):
        one = Table(["x"], [(["a"], YES), ([1], Same("b", 1))])
        other = Table(["x"], [(["b"], YES), ([2], Same("a", 1))])
        self.same(together(one, other), together(other, one))
        self.same(less(one, other), less(together(one, other), other))
        self.parted(less(one, other), one)
        self.same(less(one, one), Table(["x"], []))

    def test_told_otherwise(self):
        chance = random.Random(51)
        for table in drawn_tables(120, 51):
            self.same(table, retold(chance, table))

    def test_just_as_the_words_say(self):
        chance = random.Random(52)
        told = []
        for table in drawn_tables(150, 52):
            told.append(self.both_ways(table, spoiled(chance, retold(chance, table))))
            columns = chance.sample(table.columns(), len(table.columns()))
            told.append(self.both_ways(table, drawn_table(chance, columns, chance.randint(0, 3), ["a", "b"], [0, 1])))
        self.assertGreater(told.count(True), 40)
        self.assertGreater(told.count(False), 40)

    def test_values_of_sixty_figures(self):
        one = Table(["x"], [(["a"], Same("a", HIGH))])
        self.same(one, Table(["x"], [([int(str(HIGH))], Same(int(str(HIGH)), "a"))]))
        self.parted(one, Table(["x"], [([HIGH - 1], Same("a", HIGH))]))

    def test_what_is_told_belongs_to_whoever_asked(self):
        one, other = Table(["x"], [(["a"], YES)]), Table(["x"], [(["b"], YES)])
        everywhere(one, other)[1].clear()
        filling_right(self, everywhere(one, other)[1], ["a", "b"])

    def test_arguments_by_name(self):
        self.assertEqual(everywhere(one=Table([], []), other=Table([], [])), ("same", ("holds",)))


if __name__ == "__main__":
    unittest.main()
