"""Houses: point 36."""

import copy
import unittest

from maybetables.asks import read_ask
from maybetables.conds import AllOf, Opposite, Same, Truth
from maybetables.errors import NoColumn, NoFilling, NoName, NoText, TooMany, Twice, Unlike
from maybetables.house import House
from maybetables.sureness import maybe, sure_rows
from maybetables.tables import Table
from tests.samples import refused, table_shape, told_or_refused

YES = Truth(True)


def some_tables():
    """A few tables by names, made anew."""
    return {
        "t": Table(["x", "y"], [(["a", 1], YES), ([2, "b"], Same("a", 3))], Opposite(Same("b", 0))),
        "s": Table(["y", "x"], [([1, 2], YES), (["c", "c"], Opposite(Same("c", 1)))]),
        "u": Table(["x"], [(["a"], YES), ([1], Opposite(Same("a", 1)))]),
        "never": Table(["x"], [([1], YES)], AllOf([Same("a", 1), Same("a", 2)])),
    }


def some_house():
    """A house of those of them that can be filled together."""
    tables = some_tables()
    tables.pop("never")
    return House(tables)


class FillTest(unittest.TestCase):
    """A house filled."""

    def test_filled(self):
        house = some_house()
        self.assertEqual(house.fill({"a": 3, "b": 5, "c": 4}),
                         {"t": [(2, 5), (3, 1)], "s": [(1, 2), (4, 4)], "u": [(1,), (3,)]})
        self.assertEqual(house.fill({"a": 1, "b": 5, "c": 1}), {"t": [(1, 1)], "s": [(1, 2)], "u": [(1,)]})

    def test_the_filling_may_have_gaps_besides(self):
        self.assertEqual(some_house().fill({"a": 1, "b": 5, "c": 1, "q": 0, "zz": 3})["u"], [(1,)])

    def test_none_where_a_whole_fails(self):
        house = some_house()
        self.assertIsNone(house.fill({"a": 3, "b": 0, "c": 4}))
        self.assertIsNone(House(some_tables()).fill({"a": 1, "b": 5, "c": 1}))
        for order in (["t", "u"], ["u", "t"]):
            tables = {name: some_tables()[name] for name in order}
            self.assertIsNone(House(tables).fill({"a": 3, "b": 0}))
            self.assertIsNotNone(House(tables).fill({"a": 3, "b": 1}))

    def test_the_first_gap_by_name_of_all_tables(self):
        for lacking, gap in (("abc", "a"), ("bc", "b"), ("c", "c"), ("ac", "a"), ("b", "b")):
            for order in (["t", "s", "u"], ["u", "s", "t"], ["s", "t", "u"]):
                house = House({name: some_tables()[name] for name in order})
                filling = {name: 1 for name in "abc" if name not in lacking}
                self.assertEqual(refused(self, NoFilling, house.fill, filling).gap, gap)

    def test_a_lacking_gap_ahead_of_a_whole_that_fails(self):
        fails = Table([], [], Truth(False))
        for tables in ({"p": fails, "q": Table(["x"], [(["b"], YES), (["a"], Truth(False))])},
                       {"q": Table(["x"], [(["b"], YES)], Same("a", "a")), "p": fails}):
            self.assertEqual(refused(self, NoFilling, House(tables).fill, {}).gap, "a")
            self.assertEqual(refused(self, NoFilling, House(tables).fill, {"a": 1}).gap, "b")
            self.assertIsNone(House(tables).fill({"a": 1, "b": 1}))

    def test_no_tables(self):
        self.assertEqual(House({}).fill({}), {})
        self.assertEqual(House({}).fill({"a": 1}), {})
        refused(self, NoName, House({}).answer, "t")

    def test_tables_without_columns_or_rows(self):
        house = House({"p": Table([], [([], Same("a", 1))]), "q": Table(["x"], [])})
        self.assertEqual(house.fill({"a": 1}), {"p": [()], "q": []})
        self.assertEqual(house.fill({"a": 2}), {"p": [], "q": []})

    def test_what_comes_back_is_its_own(self):
        house = some_house()
        filling = {"a": 3, "b": 5, "c": 4}
        first = house.fill(filling)
        kept = copy.deepcopy(first)
        first["t"].clear()
        first.pop("s")
        self.assertEqual(filling, {"a": 3, "b": 5, "c": 4})
        self.assertEqual(house.fill(filling), kept)
        second = house.fill(filling)
        filling["a"] = 7
        house.fill(filling)
        self.assertEqual(second, kept)


class KeptTest(unittest.TestCase):
    """The house keeps the tables that it was given."""

    def test_whatever_is_done_to_the_dict(self):
        tables = some_tables()
        tables.pop("never")
        house = House(tables)
        self.assertEqual(sorted(tables), ["s", "t", "u"])
        before = table_shape(house.answer("t"))
        tables.pop("t")
        tables["u"] = Table([], [], Same("q", 1))
        tables["new"] = Table([], [])
        self.assertEqual(table_shape(house.answer("t")), before)
        self.assertEqual(house.answer("u").columns(), ["x"])
        refused(self, NoName, house.answer, "new")
        self.assertEqual(sorted(house.fill({"a": 1, "b": 1, "c": 1})), ["s", "t", "u"])
        self.assertEqual(house.sure("u"), [(1,)])
        self.assertIs(house.may("u", (7,)), True)

    def test_whatever_is_done_to_what_was_told(self):
        house = some_house()
        before = table_shape(house.answer("t"))
        told = house.answer("t")
        told.columns().clear()
        told.rows().clear()
        told.gaps().append("q")
        self.assertEqual(table_shape(house.answer("t")), before)
        rows = house.sure("u")
        rows.append((9,))
        self.assertEqual(house.sure("u"), [(1,)])
        refused(self, NoFilling, house.fill, {})
        self.assertEqual(table_shape(house.answer("t")), before)

    def test_two_houses(self):
        one, other = House({"t": Table(["x"], [([1], YES)])}), House({"t": Table(["x"], [([2], YES)])})
        self.assertEqual(one.sure("t"), [(1,)])
        self.assertEqual(other.sure("t"), [(2,)])
        self.assertEqual(one.fill({}), {"t": [(1,)]})


class AskedTest(unittest.TestCase):
    """Texts of asks, answered by a house."""

    def test_answered(self):
        tables, house = some_tables(), House(some_tables())
        for text in ("t", "keep(x=2; t)", "take(y; t)", "call(x z; t)", "cross(call(x z; u); t)", "join(t; u)",
                     "both(t; s)", "less(t; s)", "take(; never)"):
            with self.subTest(text=text):
                self.assertIs(type(house.answer(text)), Table)
                self.assertEqual(table_shape(house.answer(text)), table_shape(read_ask(text).answer(tables)))

    def test_sure(self):
        house = House(some_tables())
        for text, told in (("u", [(1,)]), ("t", []), ("s", [(1, 2)]), ("keep(x=1; u)", [(1,)]), ("keep(x#1; u)", []),
                           ("take(; t)", [()]), ("take(y; t)", [(1,)]), ("never", None), ("less(never; u)", None),
                           ("both(u; take(x; s))", [(1,), (2,)]), ("less(u; u)", []), ("keep(x=y; s)", [])):
            with self.subTest(text=text):
                self.assertEqual(house.sure(text), told)
                self.assertEqual(house.sure(text), sure_rows(house.answer(text)))

    def test_may(self):
        house = House(some_tables())
        for text, row, told in (
                ("u", (7,), True), ("u", (1,), True), ("keep(x=1; u)", (7,), False), ("t", (2, 0), False),
                ("t", (2, 9), True), ("t", (3, 2), False), ("never", (1,), False), ("take(; t)", (), True),
                ("take(; never)", (), False), ("less(u; u)", (1,), False), ("keep(x=y; s)", (1, 1), False),
                ("keep(x=y; s)", (-3, -3), True), ("both(u; take(x; s))", (2,), True)):
            with self.subTest(text=text, row=row):
                self.assertIs(house.may(text, row), told)
                self.assertEqual(maybe(house.answer(text), row)[0], "may" if told else "never")

    def test_refused_as_the_reading(self):
        house = House(some_tables())
        for text in ("", "t ", "keep(x=1;t)", "nobody(", "keep(q=1; nobody", "cross(t; t))", "abcdefghi", "x=1",
                     "keep(yes; " * 10 + "t" + ")" * 10):
            for ask, handed in ((house.answer, (text,)), (house.sure, (text,)), (house.may, (text, (1, 2, 3)))):
                refused(self, NoText, ask, *handed)

    def test_refused_as_the_asking(self):
        house = House(some_tables())
        for text, error, fields in (("nobody", NoName, {"name": "nobody"}), ("keep(q=1; t)", NoColumn, {"name": "q"}),
                                    ("take(x x; t)", Twice, {"name": "x"}), ("cross(t; u)", Twice, {"name": "x"}),
                                    ("both(t; u)", Unlike, {}), ("keep(q=1; nobody)", NoName, {"name": "nobody"})):
            for ask, handed in ((house.answer, (text,)), (house.sure, (text,)), (house.may, (text, (1, 2, 3)))):
                with self.subTest(text=text):
                    self.assertEqual(told_or_refused(ask, *handed), (error, fields))

    def test_too_many_rows_ahead_of_a_row_of_another_length(self):
        many = Table(["x"], [([number], YES) for number in range(20)])
        house = House({"m": many})
        for ask, handed in ((house.answer, ("both(m; m)",)), (house.sure, ("both(m; m)",)),
                            (house.may, ("both(m; m)", (1, 2)))):
            refused(self, TooMany, ask, *handed)

    def test_refused_as_25_and_26(self):
        wide = Table(["x"], [([gap], YES) for gap in ("a", "b", "c", "d", "e", "f", "g")])
        house = House({"wide": wide, "six": Table(["x"], [([gap], YES) for gap in ("a", "b", "c", "d", "e", "f")])})
        self.assertEqual(house.answer("wide").gaps(), ["a", "b", "c", "d", "e", "f", "g"])
        refused(self, TooMany, house.sure, "wide")
        refused(self, TooMany, house.may, "wide", (1,))
        refused(self, Unlike, house.may, "wide", (1, 2))
        refused(self, Unlike, house.may, "wide", ())
        refused(self, Unlike, house.may, "take(; wide)", (1,))
        self.assertEqual(house.sure("six"), [])
        refused(self, TooMany, house.may, "six", (1,))
        refused(self, Unlike, house.may, "six", ())
        self.assertEqual(len(house.fill({gap: 1 for gap in "abcdefg"})["wide"]), 1)

    def test_thirty_one_times_thirty_two(self):
        values = list(range(30))
        rows = [([value], Opposite(Same("a", value))) for value in values[:22]] + [(["a"], YES), (["b"], YES)]
        house = House({"t": Table(["x"], rows, AllOf([Opposite(Same("b", value)) for value in values]))})
        self.assertEqual(house.sure("t"), [(value,) for value in values[:22]])
        self.assertIs(house.may("t", (29,)), True)
        self.assertIs(house.may("keep(all(x#0; x=0); t)", (29,)), False)


if __name__ == "__main__":
    unittest.main()
