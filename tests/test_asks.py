"""Asks read, answered out of tables and answered plainly: point 35."""

import copy
import random
import re
import unittest

from maybetables.asks import Ask, read_ask
from maybetables.choosing import called, chosen, narrowed
from maybetables.conds import AllOf, OneOf, Opposite, Same, Truth
from maybetables.errors import NoColumn, NoName, NoText, TooMany, Twice, Unlike
from maybetables.pairing import crossed, joined, less, together
from maybetables.tables import Table
from tests.samples import (HIGH, SEEN, ask_written, conds_seen, drawn_ask, drawn_table, given_way, one_sign_otherwise,
                           plain_by_words, refused, table_shape, told_or_refused)

TABLES = {
    "t": Table(["x", "y"], [(["a", 1], Truth(True)), ([2, "b"], Same("a", 3))], Opposite(Same("b", 0))),
    "s": Table(["y", "x"], [([1, 3], Truth(True)), (["a", "b"], Opposite(Same("a", "b")))], Same("c", "c")),
    "u": Table(["z"], [(["b"], Truth(True)), ([1], Truth(True)), ([5], Same("c", 5))]),
    "yz": Table(["y", "z"], [([1, 7], Truth(True)), (["c", "a"], Truth(True))]),
    "none": Table([], [([], Same("a", 1))]),
    "keep": Table(["keep", "take"], [([1, "keep"], Truth(True))]),
    "cross": Table(["call", "yes", "less"], [(["yes", "no", 3], Truth(True))]),
    "yes": Table(["all"], [([1], Truth(True)), ([2], Truth(False))]),
}
T, S, U, YZ = TABLES["t"], TABLES["s"], TABLES["u"], TABLES["yz"]

# Each text, with the same ask by the names of 18 to 24.
ASKS = [
    ("t", lambda: T),
    ("none", lambda: TABLES["none"]),
    ("keep(x=2; t)", lambda: chosen(T, Same("x", 2))),
    ("keep(yes; t)", lambda: chosen(T, Truth(True))),
    ("keep(no; t)", lambda: chosen(T, Truth(False))),
    ("keep(x#y; t)", lambda: chosen(T, Opposite(Same("x", "y")))),
    ("keep(not(x=y); t)", lambda: chosen(T, Opposite(Same("x", "y")))),
    ("keep(all(x=1; any(y=-7; not(no))); t)",
     lambda: chosen(T, AllOf([Same("x", 1), OneOf([Same("y", -7), Opposite(Truth(False))])]))),
    ("keep(all(); t)", lambda: chosen(T, AllOf([]))),
    ("keep(x=" + "9" * 60 + "; t)", lambda: chosen(T, Same("x", HIGH))),
    ("take(x; t)", lambda: narrowed(T, ["x"])),
    ("take(y x; t)", lambda: narrowed(T, ["y", "x"])),
    ("take(; t)", lambda: narrowed(T, [])),
    ("take(; none)", lambda: narrowed(TABLES["none"], [])),
    ("call(x z; t)", lambda: called(T, {"x": "z"})),
    ("call(x y, y x; t)", lambda: called(T, {"x": "y", "y": "x"})),
    ("call(x x; t)", lambda: called(T, {"x": "x"})),
    ("call(y abcdefgh, x y; t)", lambda: called(T, {"y": "abcdefgh", "x": "y"})),
    ("cross(t; u)", lambda: crossed(T, U)),
    ("cross(u; t)", lambda: crossed(U, T)),
    ("join(t; yz)", lambda: joined(T, YZ)),
    ("join(yz; t)", lambda: joined(YZ, T)),
    ("join(t; t)", lambda: joined(T, T)),
    ("both(t; s)", lambda: together(T, S)),
    ("both(s; t)", lambda: together(S, T)),
    ("less(t; s)", lambda: less(T, S)),
    ("less(s; t)", lambda: less(S, T)),
    ("keep(y=1; take(y; t))", lambda: chosen(narrowed(T, ["y"]), Same("y", 1))),
    ("take(y; keep(x=1; t))", lambda: narrowed(chosen(T, Same("x", 1)), ["y"])),
    ("less(join(t; yz); join(s; yz))", lambda: less(joined(T, YZ), joined(S, YZ))),
    ("cross(call(x p, y q; t); less(t; both(t; s)))",
     lambda: crossed(called(T, {"x": "p", "y": "q"}), less(T, together(T, S)))),
    ("take(z; call(x z; keep(x#1; less(t; s))))",
     lambda: narrowed(called(chosen(less(T, S), Opposite(Same("x", 1))), {"x": "z"}), ["z"])),
    ("keep", lambda: TABLES["keep"]),
    ("cross", lambda: TABLES["cross"]),
    ("keep(keep=take; keep)", lambda: chosen(TABLES["keep"], Same("keep", "take"))),
    ("take(take keep; keep)", lambda: narrowed(TABLES["keep"], ["take", "keep"])),
    ("call(call call, less take; cross)", lambda: called(TABLES["cross"], {"call": "call", "less": "take"})),
    ("cross(keep; yes)", lambda: crossed(TABLES["keep"], TABLES["yes"])),
    ("keep(yes=call; cross)", lambda: chosen(TABLES["cross"], Same("yes", "call"))),
    ("keep(yes; yes)", lambda: chosen(TABLES["yes"], Truth(True))),
    ("keep(all#all; yes)", lambda: chosen(TABLES["yes"], Opposite(Same("all", "all")))),
    ("take(all; yes)", lambda: narrowed(TABLES["yes"], ["all"])),
]

WRONG_ASKS = [
    "", " ", "T", "t ", " t", "t\n", "\nt", "t;", "t; s", "(t)", "t()", "t(s)", "abcdefghi", "t1", "1", "-1", "t-s",
    "x=1", "all()", "yes(t)", "not(t)", "keep()", "keep(", "keep(t)", "keep(x=1)", "keep(x=1; )", "keep(x=1;t)",
    "keep(x=1;  t)", "keep(x=1 ; t)", "keep( x=1; t)", "keep(x=1; t )", "keep(x=1; t", "keep(x=1; t))",
    "keep(x=1; t; t)", "keep(; t)", "keep(x=1, t)", "keep(x; t)", "keep(x=01; t)", "keep(x=1" + "0" * 60 + "; t)",
    "keep(t; x=1)", "keep(x=1; T)", "keep(x=1; y=1; t)", "keep (x=1; t)", "Keep(x=1; t)", "keeps(x=1; t)",
    "keep(maybe; t)", "keep(all(x=1; t)", "keep(; )", "take()", "take(", "take(t)", "take(x)", "take(x; )",
    "take(x;t)", "take(x;  t)", "take( x; t)", "take(x ; t)", "take(x  y; t)", "take(x, y; t)", "take(x; y; t)",
    "take( ; t)", "take(; )", "take(;t)", "take(; ; t)", "take(X; t)", "take(1; t)", "take(abcdefghi; t)",
    "take(x; t", "take(x; t))", "take(x=1; t)", "take(x\n; t)", "take(x;\nt)", "call()", "call(", "call(t)",
    "call(; t)", "call(x; t)", "call(x y)", "call(x y; )", "call(x y;t)", "call(x y z; t)", "call(x y,z w; t)",
    "call(x y , z w; t)", "call(x y,  z w; t)", "call(x y; z w; t)", "call(x y, ; t)", "call(, x y; t)",
    "call(x y, z; t)", "call(x  y; t)", "call( x y; t)", "call(x y ; t)", "call(x Y; t)", "call(x 1; t)",
    "call(x=y; t)", "call(x abcdefghi; t)", "call(abcdefghi x; t)", "call(x y, x z; t)", "call(x y, x y; t)",
    "call(x y, y x, x z; t)", "call(x y; t", "call(x y; t))", "call(x y,; t)", "call(x y z w; t)", "cross()",
    "cross(t)", "cross(t; )", "cross(; t)", "cross(t;s)", "cross(t; s; u)", "cross(t, s)", "cross(t s)",
    "cross(t ; s)", "cross( t; s)", "cross(t; s )", "cross(t;  s)", "cross(t; s", "cross(t; s))", "cross(t; x=1)",
    "Cross(t; s)", "crosses(t; s)", "times(t; s)", "plus(t; s)", "join(t)", "join(t;s)", "both(t)", "both(t; s; u)",
    "less(t)", "less(t s)", "less(t; s))", "join(keep(x=1); t)", "join(t; keep(t))", "join(t; take(x, t))",
    "and(t; s)", "cross(t; s)\n", "cross(t; s) ", "cross(t;\ns)", "cross\n(t; s)", "join(t; \u00e9)", "\uff54",
    "t\u200b",
]

NAME = "[a-z]{1,8}"
ONE = f"(?:\x02|{NAME})"
FORM = (f"(?:keep\\({SEEN}; {ONE}\\)|take\\((?:{NAME}(?: {NAME})*)?; {ONE}\\)"
        f"|call\\(({NAME} {NAME}(?:, {NAME} {NAME})*); {ONE}\\)|(?:cross|join|both|less)\\({ONE}; {ONE}\\))")


def one_way(found):
    """The sign for an ask that was found; none, where one OLD stands twice in it."""
    olds = [pair.split(" ")[0] for pair in (found[1] or "").split(", ")]
    return "\x02" if len(set(olds)) == len(olds) else "\x03"


def is_ask(text):
    """Whether a text is an ask by the words of 35, however many stand one within another."""
    return re.fullmatch(ONE, given_way(FORM, conds_seen(text), one_way)) is not None


def bare_lists(tables):
    """The tables as pairs (columns, rows), without rows."""
    return {name: (table.columns(), []) for name, table in tables.items()}


def speaks_of(ask, name, tables):
    """Whether an ask that is not refused speaks of the table of a name."""
    lists = bare_lists(tables)
    lists.pop(name)
    return told_or_refused(ask.plain, lists) == (NoName, {"name": name})


LISTS = {
    "t": (["x", "y"], [(3, 1), (2, 5), (3, 1), (-4, 0)]),
    "s": (["y", "x"], [(1, 3), (0, 7)]),
    "u": (["z"], [(5,), (1,), (5,)]),
    "yz": (["y", "z"], [(1, 7), (0, 2), (1, -7)]),
    "none": ([], [()]),
    "bare": ([], []),
    "empty": (["x", "y"], []),
}


class ReadAskTest(unittest.TestCase):
    """The texts of asks."""

    def test_each_sort_is_read(self):
        for text, ask in ASKS:
            with self.subTest(text=text):
                self.assertIsInstance(read_ask(text), Ask)

    def test_the_words_of_the_tests_agree(self):
        for text, ask in ASKS:
            self.assertTrue(is_ask(text), text)
        for text in WRONG_ASKS:
            self.assertFalse(is_ask(text), text)

    def test_written_otherwise(self):
        for text in WRONG_ASKS:
            with self.subTest(text=text):
                refused(self, NoText, read_ask, text)

    def test_one_sign_otherwise(self):
        for text in ("t", "keep(x=1; t)", "keep(all(yes; x#y); t)", "take(x y; t)", "take(; t)", "call(x y, y x; t)",
                     "join(t; less(t; s))", "keep(yes; take(y; t))"):
            for other in one_sign_otherwise(text, "xk0;( ),=\n"):
                with self.subTest(text=other):
                    if is_ask(other):
                        self.assertIsInstance(read_ask(other), Ask)
                    else:
                        refused(self, NoText, read_ask, other)

    def test_ten_one_within_another(self):
        for text, end in (("keep(yes; ", ")"), ("take(x y; ", ")"), ("call(x x; ", ")"), ("join(t; ", ")"),
                          ("join(", "; t)"), ("both(t; ", ")"), ("less(", "; s)")):
            ask = read_ask(text * 9 + "t" + end * 9)
            self.assertEqual(ask.plain({"t": (["x", "y"], [(1, 2)]), "s": (["x", "y"], [])}), (["x", "y"], [(1, 2)]))
            with self.subTest(text=text):
                refused(self, NoText, read_ask, text * 10 + "t" + end * 10)
        refused(self, NoText, read_ask, "keep(yes; " * 3000 + "t" + ")" * 3000)
        refused(self, NoText, read_ask, "join(" * 3000)

    def test_each_side_counts_by_itself(self):
        side = "keep(yes; " * 8 + "t" + ")" * 8
        self.assertIsInstance(read_ask(f"join({side}; {side})"), Ask)
        refused(self, NoText, read_ask, f"join(keep(yes; {side}); t)")
        refused(self, NoText, read_ask, f"join(t; keep(yes; {side}))")

    def test_twenty_within_in_a_condition(self):
        twenty = "all(" * 20 + "x=1" + ")" * 20
        around = "keep(yes; " * 8
        ask = read_ask(around + f"keep({twenty}; t)" + ")" * 8)
        self.assertEqual(ask.plain({"t": (["x"], [(1,), (2,)])}), (["x"], [(1,)]))
        refused(self, NoText, read_ask, f"keep(not({twenty}); t)")

    def test_what_is_refused_only_when_answered(self):
        for text in ("take(x x; t)", "take(q; t)", "call(x q, y q; t)", "call(q x; t)", "keep(q=1; t)", "cross(t; t)",
                     "both(t; u)", "nobody"):
            self.assertIsInstance(read_ask(text), Ask)


class AnswerTest(unittest.TestCase):
    """Asks answered out of tables."""

    def test_each_sort_is_answered(self):
        for text, ask in ASKS:
            with self.subTest(text=text):
                told = read_ask(text).answer(TABLES)
                self.assertIs(type(told), Table)
                self.assertEqual(table_shape(told), table_shape(ask()))

    def test_refused_as_18_to_24(self):
        for text, error, fields in (
                ("keep(all(zz=1; q=x); t)", NoColumn, {"name": "q"}), ("keep(a=1; t)", NoColumn, {"name": "a"}),
                ("take(x q p; t)", NoColumn, {"name": "q"}), ("take(x x q; t)", NoColumn, {"name": "q"}),
                ("take(x y y x; t)", Twice, {"name": "y"}), ("call(x p, q z, b z; t)", NoColumn, {"name": "b"}),
                ("call(x y; t)", Twice, {"name": "y"}), ("call(x w, y w; t)", Twice, {"name": "w"}),
                ("cross(t; s)", Twice, {"name": "x"}), ("both(t; u)", Unlike, {}), ("both(t; yz)", Unlike, {}),
                ("less(t; take(x; t))", Unlike, {}), ("less(u; t)", Unlike, {}),
                ("nobody", NoName, {"name": "nobody"})):
            with self.subTest(text=text):
                self.assertEqual(told_or_refused(read_ask(text).answer, TABLES), (error, fields))
                self.assertEqual(told_or_refused(read_ask(text).plain, bare_lists(TABLES)), (error, fields))

    def test_the_parts_first_and_the_left_one_first(self):
        for text, error, field in (
                ("keep(q=1; nobody)", NoName, "nobody"), ("take(q; nobody)", NoName, "nobody"),
                ("call(q x; nobody)", NoName, "nobody"), ("cross(nobody; noone)", NoName, "nobody"),
                ("cross(noone; nobody)", NoName, "noone"), ("cross(keep(q=1; t); nobody)", NoColumn, "q"),
                ("cross(nobody; keep(q=1; t))", NoName, "nobody"), ("both(t; keep(q=1; u))", NoColumn, "q"),
                ("both(take(p; t); take(o; u))", NoColumn, "p"), ("less(u; take(o; t))", NoColumn, "o"),
                ("take(q; keep(p=1; t))", NoColumn, "p"), ("keep(q=1; take(x x; t))", Twice, "x"),
                ("join(t; nobody)", NoName, "nobody"), ("call(q x; cross(t; t))", Twice, "x"),
                ("cross(cross(t; t); nobody)", Twice, "x"), ("cross(nobody; cross(t; t))", NoName, "nobody")):
            with self.subTest(text=text):
                self.assertEqual(told_or_refused(read_ask(text).answer, TABLES), (error, {"name": field}))
                self.assertEqual(told_or_refused(read_ask(text).plain, LISTS), (error, {"name": field}))

    def test_a_name_without_a_table(self):
        for text in ("t", "take(; t)", "join(s; t)"):
            refusal = refused(self, NoName, read_ask(text).answer, {"s": S})
            self.assertEqual(refusal.name, "t")
            refusal = refused(self, NoName, read_ask(text).plain, {"s": LISTS["s"]})
            self.assertEqual(refusal.name, "t")
        self.assertEqual(refused(self, NoName, read_ask("keep").answer, {}).name, "keep")

    def test_too_many_rows(self):
        yes = Truth(True)
        tables = {"a": Table(["x"], [([number], yes) for number in range(5)]),
                  "b": Table(["y"], [([number], yes) for number in range(5)]),
                  "c": Table(["z"], [([number], yes) for number in range(4)]),
                  "d": Table(["w"], [([number], yes) for number in range(24)])}
        for text in ("cross(a; b)", "join(a; b)", "both(d; d)", "cross(b; cross(a; c))", "keep(q=1; cross(a; b))",
                     "join(cross(a; b); nobody)", "cross(a; d)"):
            with self.subTest(text=text):
                refused(self, TooMany, read_ask(text).answer, tables)
        self.assertEqual(len(read_ask("cross(a; c)").answer(tables).rows()), 20)
        self.assertEqual(len(read_ask("less(d; d)").answer(tables).rows()), 24)
        refused(self, Twice, read_ask("cross(a; call(y x; b))").answer, tables)
        refused(self, Unlike, read_ask("both(d; a)").answer, tables)
        refused(self, NoName, read_ask("cross(nobody; cross(a; b))").answer, tables)

    def test_what_is_handed_in_stays(self):
        tables = dict(TABLES)
        shapes = {name: table_shape(table) for name, table in tables.items()}
        for text, ask in ASKS:
            read_ask(text).answer(tables)
        self.assertEqual(list(tables), list(TABLES))
        self.assertEqual({name: table_shape(table) for name, table in tables.items()}, shapes)

    def test_an_ask_is_asked_again_and_of_other_tables(self):
        ask = read_ask("call(x z; keep(x=1; take(x; t)))")
        first = table_shape(ask.answer(TABLES))
        other = Table(["y", "x", "w"], [([1, "a", 2], Truth(True))])
        self.assertEqual(table_shape(ask.answer({"t": other})),
                         table_shape(called(chosen(narrowed(other, ["x"]), Same("x", 1)), {"x": "z"})))
        self.assertEqual(table_shape(ask.answer(TABLES)), first)

    def test_no_later_call_touches_what_was_told(self):
        told = read_ask("take(y x; t)").answer(TABLES)
        told.columns().append("z")
        told.rows().clear()
        self.assertEqual(table_shape(read_ask("take(y x; t)").answer(TABLES)), table_shape(narrowed(T, ["y", "x"])))
        self.assertEqual(table_shape(told), table_shape(narrowed(T, ["y", "x"])))


class PlainTest(unittest.TestCase):
    """Asks answered plainly out of lists."""

    def test_each_sort(self):
        for text, told in (
                ("t", (["x", "y"], [(-4, 0), (2, 5), (3, 1)])),
                ("none", ([], [()])), ("bare", ([], [])), ("empty", (["x", "y"], [])),
                ("keep(x=3; t)", (["x", "y"], [(3, 1)])), ("keep(x#3; t)", (["x", "y"], [(-4, 0), (2, 5)])),
                ("keep(yes; t)", (["x", "y"], [(-4, 0), (2, 5), (3, 1)])), ("keep(no; t)", (["x", "y"], [])),
                ("keep(yes; none)", ([], [()])), ("keep(x=y; empty)", (["x", "y"], [])),
                ("take(y; t)", (["y"], [(0,), (1,), (5,)])), ("take(y x; t)", (["y", "x"], [(0, -4), (1, 3), (5, 2)])),
                ("take(; t)", ([], [()])), ("take(; empty)", ([], [])), ("take(y; yz)", (["y"], [(0,), (1,)])),
                ("call(x z; t)", (["z", "y"], [(-4, 0), (2, 5), (3, 1)])),
                ("call(x y, y x; t)", (["y", "x"], [(-4, 0), (2, 5), (3, 1)])),
                ("cross(u; t)", (["z", "x", "y"], [
                    (1, -4, 0), (1, 2, 5), (1, 3, 1), (5, -4, 0), (5, 2, 5), (5, 3, 1)])),
                ("cross(u; none)", (["z"], [(1,), (5,)])), ("cross(u; bare)", (["z"], [])),
                ("cross(bare; u)", (["z"], [])), ("cross(none; none)", ([], [()])),
                ("join(t; yz)", (["x", "y", "z"], [(-4, 0, 2), (3, 1, -7), (3, 1, 7)])),
                ("join(yz; t)", (["y", "z", "x"], [(0, 2, -4), (1, -7, 3), (1, 7, 3)])),
                ("join(t; s)", (["x", "y"], [(3, 1)])), ("join(t; u)", (["x", "y", "z"], [
                    (-4, 0, 1), (-4, 0, 5), (2, 5, 1), (2, 5, 5), (3, 1, 1), (3, 1, 5)])),
                ("join(t; empty)", (["x", "y"], [])), ("join(t; t)", (["x", "y"], [(-4, 0), (2, 5), (3, 1)])),
                ("both(t; s)", (["x", "y"], [(-4, 0), (2, 5), (3, 1), (7, 0)])),
                ("both(s; t)", (["y", "x"], [(0, -4), (0, 7), (1, 3), (5, 2)])), ("both(none; bare)", ([], [()])),
                ("less(t; s)", (["x", "y"], [(-4, 0), (2, 5)])), ("less(s; t)", (["y", "x"], [(0, 7)])),
                ("less(none; none)", ([], [])), ("less(none; bare)", ([], [()])), ("less(t; t)", (["x", "y"], []))):
            with self.subTest(text=text):
                self.assertEqual(read_ask(text).plain(LISTS), told)

    def test_the_kinds_of_what_is_told(self):
        for text in ("t", "keep(x=3; t)", "take(y; t)", "call(x z; t)", "cross(u; t)", "join(t; yz)", "both(t; s)",
                     "less(t; s)"):
            told = read_ask(text).plain(LISTS)
            self.assertEqual([type(part) for part in (told, told[0], told[1], told[1][0])], [tuple, list, list, tuple])

    def test_refused_also_without_rows(self):
        for text, error, field in (("keep(q=1; empty)", NoColumn, "q"), ("take(x q; empty)", NoColumn, "q"),
                                   ("take(x x; empty)", Twice, "x"), ("call(q x; empty)", NoColumn, "q"),
                                   ("call(x y; empty)", Twice, "y"), ("cross(empty; empty)", Twice, "x")):
            refusal = refused(self, error, read_ask(text).plain, LISTS)
            self.assertEqual(refusal.name, field)
        refused(self, Unlike, read_ask("both(empty; bare)").plain, LISTS)
        refused(self, Unlike, read_ask("less(bare; empty)").plain, LISTS)

    def test_nothing_is_too_many(self):
        lists = {"a": (["x"], [(number,) for number in range(40)]), "b": (["y"], [(number,) for number in range(30)])}
        columns, rows = read_ask("cross(a; b)").plain(lists)
        self.assertEqual(rows, [(one, other) for one in range(40) for other in range(30)])
        self.assertEqual(read_ask("join(a; b)").plain(lists), (columns, rows))
        columns, rows = read_ask("both(a; call(y x; b))").plain(lists)
        self.assertEqual(len(rows), 40)
        columns, rows = read_ask("keep(x#y; cross(cross(a; b); call(x z; take(x; keep(x=7; a)))))").plain(lists)
        self.assertEqual(len(rows), 40 * 30 - 30)

    def test_what_is_handed_in_stays_and_what_comes_back_is_its_own(self):
        for text in ("t", "keep(yes; t)", "take(x y; t)", "call(x x; t)", "cross(t; none)", "join(t; t)", "both(t; t)",
                     "less(t; empty)"):
            lists = copy.deepcopy(LISTS)
            ask = read_ask(text)
            first = ask.plain(lists)
            self.assertEqual(lists, LISTS)
            kept = copy.deepcopy(first)
            first[0].append("zz")
            first[1].clear()
            self.assertEqual(lists, LISTS)
            self.assertEqual(ask.plain(lists), kept)
            lists["t"][0].append("q")
            lists["t"][1].clear()
            self.assertEqual(ask.plain(LISTS), kept)

    def test_drawn_asks_by_the_words(self):
        chance = random.Random(35)
        refusals = []
        for number in range(1500):
            lists = {}
            for name, columns in (("t", ["x", "y"]), ("s", ["y", "x"]), ("u", ["z"]), ("keep", ["x", "z"])):
                rows = [tuple(chance.choices([0, 1, -2, 5], k=len(columns))) for row in range(chance.randint(0, 5))]
                lists[name] = (columns, rows)
            ask = drawn_ask(chance, lists, chance.randint(1, 6))
            told = told_or_refused(read_ask(ask_written(ask)).plain, lists)
            self.assertEqual(told, told_or_refused(plain_by_words, ask, lists))
            refusals.append(told[0] if isinstance(told[0], type) else None)
        for error in (NoColumn, NoName, Twice, Unlike):
            self.assertIn(error, refusals)
        self.assertLess(refusals.count(None), 1500)
        self.assertGreater(refusals.count(None), 1000)


class AskWholeTest(unittest.TestCase):
    """Of point 4: at every filling, the answer to an ask, filled, is what the plain ask makes of the tables filled."""

    def test_asks_by_hand(self):
        for text, made in ASKS:
            for first in (0, 1, 3):
                for second in (0, 1, 3, 5):
                    filling = {"a": first, "b": second, "c": 1, "keep": second, "yes": 5, "no": first}
                    self.check(text, TABLES, filling)

    def test_drawn_asks(self):
        chance = random.Random(4)
        told = []
        for number in range(500):
            tables = {}
            for name, columns in (("t", ["x", "y"]), ("s", ["y", "x"]), ("u", ["z"]), ("keep", ["x", "a"])):
                tables[name] = drawn_table(chance, columns, chance.randint(0, 3), ["a", "b", "c"], [0, 1, -2])
            text = ask_written(drawn_ask(chance, bare_lists(tables), chance.randint(2, 6)))
            for place in range(12):
                filling = {gap: chance.choice([0, 1, -2, 7, 8]) for gap in ("a", "b", "c")}
                told.append(self.check(text, tables, filling))
        self.assertGreater(told.count("rows"), 400)
        self.assertGreater(told.count("refused"), 50)
        self.assertGreater(told.count("whole"), 400)

    def check(self, text, tables, filling):
        """Asks it of one filling; tells what was seen."""
        ask = read_ask(text)
        table = told_or_refused(ask.answer, tables)
        if isinstance(table, tuple):
            plain = told_or_refused(ask.plain, bare_lists(tables))
            self.assertTrue(plain == table or table[0] is TooMany and plain[0] is not TooMany)
            return "refused"
        spoken = {name: tables[name] for name in tables if speaks_of(ask, name, tables)}
        if any(part.filled(filling) is None for part in spoken.values()):
            self.assertIsNone(table.filled(filling))
            return "whole"
        lists = {name: (part.columns(), part.filled(filling)) for name, part in spoken.items()}
        self.assertEqual((table.columns(), table.filled(filling)), ask.plain(lists))
        return "rows" if table.filled(filling) else "none"


if __name__ == "__main__":
    unittest.main()
