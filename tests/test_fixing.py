"""Tables fixed."""

import random
import unittest

from maybetables.conds import AllOf, OneOf, Opposite, Same, Truth
from maybetables.errors import TooMany
from maybetables.fillings import bound
from maybetables.fixing import fixed
from maybetables.rules import Key, Leads, Stands, ruled
from maybetables.tables import Table
from tests.samples import (HIGH, drawn_cond, drawn_tables, every_filling, filled_by_words, layered, paper_right,
                           refused, some_fillings, table_shape, values_by)

YES, NO = Truth(True), Truth(False)


def fills_by_words(table):
    """The fills by the words of 30, one filling after another; None where no filling keeps the whole."""
    gaps = table.gaps()
    keeping = [filling for filling in every_filling(gaps, table.standing(), len(gaps) + 1)
               if table.whole().truth(filling)]
    if not keeping:
        return None
    fills = {}
    for place, gap in enumerate(gaps):
        if len({filling[gap] for filling in keeping}) == 1:
            fills[gap] = keeping[0][gap]
        else:
            for ahead in gaps[:place]:
                if gap not in fills and all(filling[gap] == filling[ahead] for filling in keeping):
                    fills[gap] = ahead
    return fills


class FixedTest(unittest.TestCase):
    def fixed_right(self, table, step=1):
        """The fills that are told, when all that is told is looked through; None where a paper is told."""
        before = table_shape(table)
        told = fixed(table)
        self.assertIs(type(told), tuple)
        self.assertEqual(table_shape(table), before)
        if told[0] == "none":
            self.assertEqual(len(told), 2)
            paper_right(self, Opposite(table.whole()), told[1])
            return None
        self.assertEqual((told[0], len(told)), ("fixed", 3))
        fills, fixed_table = told[1:]
        self.assertIs(type(fills), dict)
        self.assertIsInstance(fixed_table, Table)
        self.assertEqual(table_shape(fixed_table), table_shape(table.put(fills)))
        self.assertEqual([gap for gap in fixed_table.gaps() if gap in fills], [])
        for filling in some_fillings(table.gaps(), table.standing())[::step]:
            given = {gap: values_by([fills.get(gap, gap)], filling)[0] for gap in table.gaps()}
            self.assertEqual(fixed_table.filled(filling), filled_by_words(table, given))
        return fills

    def whole_fixed(self, whole, fills, rows=()):
        """Asks for the fills of a table with this whole, and that the words say the same."""
        table = Table(["x"], list(rows), whole)
        self.assertEqual(self.fixed_right(table), fills)
        self.assertEqual(fills_by_words(table), fills)

    def test_a_value(self):
        self.whole_fixed(Same("a", 3), {"a": 3})
        self.whole_fixed(Same(-3, "a"), {"a": -3})
        self.whole_fixed(Same("a", 0), {"a": 0})
        self.whole_fixed(AllOf([Same("a", 3), Same("b", 4)]), {"a": 3, "b": 4})
        self.whole_fixed(AllOf([Same("a", "b"), Same("b", 4)]), {"a": 4, "b": 4})
        self.whole_fixed(AllOf([Same("a", 3), OneOf([Same("b", 1), Same("b", 2)])]), {"a": 3})
        self.whole_fixed(OneOf([AllOf([Same("a", 1), Same("b", 2)]), AllOf([Same("b", 3), Same("a", 1)])]), {"a": 1})

    def test_a_value_by_what_is_shut_out(self):
        some = OneOf([Same("a", 1), Same("a", 2), Same("a", 3)])
        self.whole_fixed(some, {})
        self.whole_fixed(AllOf([some, Opposite(Same("a", 2))]), {})
        self.whole_fixed(AllOf([some, Opposite(Same("a", 2)), Opposite(Same("a", 3))]), {"a": 1})

    def test_a_gap_ahead(self):
        self.whole_fixed(Same("a", "b"), {"b": "a"})
        self.whole_fixed(Same("b", "a"), {"b": "a"})
        self.whole_fixed(AllOf([Same("c", "b"), Same("d", "d"), Same("a", "a")]), {"c": "b"})
        self.whole_fixed(AllOf([Same("a", "c"), Same("b", "d")]), {"c": "a", "d": "b"})
        self.whole_fixed(AllOf([Same("a", "b"), Opposite(Same("a", 1))]), {"b": "a"})

    def test_the_first_gap_ahead(self):
        self.whole_fixed(AllOf([Same("c", "b"), Same("b", "a")]), {"b": "a", "c": "a"})
        self.whole_fixed(AllOf([Same("d", "c"), Same("c", "b"), Same("a", "a")]), {"c": "b", "d": "b"})
        self.whole_fixed(AllOf([Same("ab", "b"), Same("b", "aa")]), {"ab": "aa", "b": "aa"})

    def test_a_value_ahead_of_a_gap(self):
        self.whole_fixed(AllOf([Same("a", "b"), Same("b", 0), Same("c", "d")]), {"a": 0, "b": 0, "d": "c"})

    def test_a_gap_that_is_alike_only_sometimes(self):
        self.whole_fixed(OneOf([Same("a", "b"), Same("a", "c")]), {})
        self.whole_fixed(OneOf([Same("a", "b"), Same("a", 1)]), {})
        self.whole_fixed(OneOf([AllOf([Same("a", 1), Same("b", 1)]), AllOf([Same("a", 2), Same("b", 2)])]), {"b": "a"})
        self.whole_fixed(Opposite(Same("a", "b")), {})

    def test_a_fresh_value_is_no_fill(self):
        self.whole_fixed(Opposite(Same("a", 1)), {})
        self.whole_fixed(Opposite(Same("a", 0)), {})
        self.whole_fixed(AllOf([Opposite(Same("a", value)) for value in range(5)]), {})
        self.whole_fixed(AllOf([Opposite(Same("a", 1)), Opposite(Same("b", 1)), Same("a", "b")]), {"b": "a"})
        self.whole_fixed(None, {}, [(["a"], YES)])

    def test_gaps_of_the_rows(self):
        rows = [(["a"], Same("b", 1)), (["c"], YES)]
        self.whole_fixed(None, {}, rows)
        self.whole_fixed(Same("a", 2), {"a": 2}, rows)
        self.whole_fixed(AllOf([Same("b", 1), Same("c", "a")]), {"b": 1, "c": "a"}, rows)
        self.whole_fixed(Same("d", "a"), {"d": "a"}, rows)

    def test_the_table_with_the_fills_put_in(self):
        table = Table(["x", "y"], [(["a", "b"], Same("c", "b")), (["c", 1], Opposite(Same("a", "d")))],
                      AllOf([Same("a", 3), Same("c", "b")]))
        said, fills, told = fixed(table)
        self.assertEqual(fills, {"a": 3, "c": "b"})
        self.assertEqual([cells for cells, cond in told.rows()], [(3, "b"), ("b", 1)])
        self.assertEqual(told.gaps(), ["b", "d"])
        self.assertEqual(told.filled({"b": 5, "d": 1}), [(3, 5), (5, 1)])
        self.assertEqual(told.filled({"b": 5, "d": 3}), [(3, 5)])
        self.fixed_right(table)

    def test_where_no_filling_keeps_the_whole(self):
        for whole in (NO, AllOf([Same("a", 1), Same("a", 2)]), AllOf([Same("a", "b"), Opposite(Same("b", "a"))]),
                      Opposite(OneOf([Same("c", 1), Opposite(Same("c", 1))])), OneOf([])):
            for rows in ([], [(["a"], YES)]):
                self.whole_fixed(whole, None, rows)

    def test_without_gaps(self):
        self.whole_fixed(None, {})
        self.whole_fixed(Same(2, 2), {}, [([1], YES)])
        self.whole_fixed(Same(2, 1), None, [([1], YES)])
        self.assertEqual(fixed(Table([], [([], YES)]))[2].filled({}), [()])

    def test_a_gap_called_like_a_column(self):
        table = Table(["a", "b"], [(["b", "a"], YES)], Same("a", 1))
        self.assertEqual(self.fixed_right(table), {"a": 1})
        self.assertEqual(fixed(table)[2].columns(), ["a", "b"])

    def test_too_many(self):
        self.assertEqual((bound(4, 3), bound(4, 4)), (840, 1680))
        rows = [([gap], YES) for gap in "abcd"]
        self.fixed_right(Table(["x"], rows + [([value], YES) for value in range(3)], Same("a", 1)))
        for whole in (None, NO, Same("a", 1)):
            refused(self, TooMany, fixed, Table(["x"], rows + [([value], YES) for value in range(4)], whole))
            refused(self, TooMany, fixed, Table(["x"], [([gap], YES) for gap in "abcdefg"], whole))
        refused(self, TooMany, fixed, Table([], [], AllOf([Same(gap, "a") for gap in "abcdefg"])))

    def test_as_wide_as_may_be(self):
        for gaps, values in (("a", range(30)), ("ab", range(30)), ("abc", range(8)), ("abcd", range(3)),
                             ("abcde", [7])):
            sames = [Same(gap, value) for gap in gaps for value in values]
            each = AllOf([OneOf([same, Opposite(same)]) for same in sames])
            last = {gap: max(values) for gap in gaps}
            self.assertEqual(self.fixed_right(Table([], [], each)), {})
            self.assertEqual(self.fixed_right(Table([], [], AllOf([each] + [Same(gap, gaps[0]) for gap in gaps]))),
                             {gap: gaps[0] for gap in gaps[1:]})
            self.assertEqual(self.fixed_right(Table([], [], AllOf([each] + [Same(gap, max(values)) for gap in gaps]))),
                             last)
            self.assertIsNone(self.fixed_right(Table([], [], Opposite(each))))

    def test_as_long_and_as_deep_as_may_be(self):
        cond = AllOf([layered(OneOf([Same("a", number % 28), Opposite(Same("a", number % 28))]), 16)
                      for number in range(100)])
        rows = [(["a", "b"] * 4, cond)] * 24
        columns = ["c" + chr(97 + place) for place in range(8)]
        self.assertEqual(self.fixed_right(Table(columns, rows, cond), 100), {})
        self.assertIsNone(self.fixed_right(Table(columns, rows, Opposite(cond))))
        self.assertEqual(self.fixed_right(Table(columns, rows, AllOf([Same("b", 5), cond])), 100), {"b": 5})

    def test_what_ruled_tells(self):
        table = Table(["x", "y"], [([1, "a"], YES), ([1, 2], YES), ([2, "b"], YES), (["c", 5], YES)])
        other = Table(["z"], [([1], YES), ([2], YES)])
        self.assertEqual(self.fixed_right(ruled(table, [])), {})
        self.assertEqual(self.fixed_right(ruled(table, [Key(["x"])])), {"a": 2})
        told = ruled(table, [Key(["x"]), Stands(["x"], other, ["z"])])
        self.assertEqual(self.fixed_right(told), {"a": 2, "b": 5, "c": 2})
        self.assertEqual(fixed(told)[2].filled({}), [(1, 2), (2, 5)])
        self.assertIsNone(self.fixed_right(ruled(table, [Leads([], "x")])))
        self.assertEqual(fills_by_words(told), {"a": 2, "b": 5, "c": 2})

    def test_what_ruled_tells_of_long_tables(self):
        columns = ["c" + chr(97 + place) for place in range(8)]
        either = [OneOf([Same(gap, value), Opposite(Same(gap, value))]) for gap in "abcd" for value in (0, 1, 2)]
        conds = [AllOf([part for number in range(100) for part in either[(number + place) % 12:][:1]])
                 for place in range(24)]
        rows = [(["a", 0, "b", "b", "c", "d", 1, 2], cond) for cond in conds[:12]]
        rows += [(["a", 1, "b", "c", "b", "d", 1, 2], Opposite(cond)) for cond in conds[12:]]
        rows += [(["a", 0, "b", "c", "b", "d", 1, "d"], YES)]
        table = Table(columns, rows[:11] + rows[12:])
        told = ruled(table, [Key([name]) for name in columns] + [Stands(columns[:2], table, columns[1:3])])
        self.assertGreater(told.whole().atoms(), 200000)
        self.assertEqual(fixed(told)[1], {"a": 0, "b": 0, "c": 0, "d": 2})
        filling = fixed(told)[2].filled({})
        self.assertEqual(filling, [(0, 0, 0, 0, 0, 2, 1, 2)])

    def test_just_as_the_words_say(self):
        chance = random.Random(41)
        told = []
        for table in drawn_tables(150, 41):
            whole = drawn_cond(chance, ["a", "b", "c"], [0, 1][:chance.randint(1, 2)], 4, 3)
            parts = [Same(chance.choice("abc"), chance.choice(["a", "b", "c", 0])) for number in range(2)]
            for each in (table, Table(table.columns(), table.rows(), AllOf([whole] + parts))):
                fills = self.fixed_right(each)
                self.assertEqual(fills, fills_by_words(each))
                sorts = {type(cell).__name__ for cell in (fills or {}).values()}
                told.append("none" if fills is None else "".join(sorted(sorts)))
        for sort in ("none", "", "int", "str", "intstr"):
            self.assertGreater(told.count(sort), 6)

    def test_values_of_sixty_figures(self):
        self.whole_fixed(AllOf([Same("a", HIGH), Same("b", -HIGH)]), {"a": HIGH, "b": -HIGH})

    def test_what_is_told_belongs_to_whoever_asked(self):
        table = Table(["x"], [(["a"], YES), (["b"], YES)], AllOf([Same("a", 1), Same("c", "b")]))
        said, fills, told = fixed(table)
        before = table_shape(told)
        fills["b"] = 7
        fills.pop("a")
        told.rows().clear()
        self.assertEqual(table_shape(told), before)
        self.assertEqual(fixed(table)[1], {"a": 1, "c": "b"})

    def test_arguments_by_name(self):
        self.assertEqual(fixed(table=Table([], [], Same("a", 1)))[1], {"a": 1})


if __name__ == "__main__":
    unittest.main()
