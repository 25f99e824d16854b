"""Conditions and tables as texts: points 33 and 34."""

import random
import re
import unittest

from maybetables.conds import AllOf, OneOf, Opposite, Same, Truth
from maybetables.errors import NoText
from maybetables.rules import Key, Stands, ruled
from maybetables.tables import Table
from maybetables.texts import read_cond, read_table, shown_cond, shown_table
from tests.samples import (CELL, HIGH, SEEN, cond_written, conds_seen, drawn_cond, drawn_conds, drawn_tables, layered,
                           one_sign_otherwise, refused, shape, small_conds, table_shape)

CONDS = [
    ("yes", Truth(True)),
    ("no", Truth(False)),
    ("a=b", Same("a", "b")),
    ("b=a", Same("b", "a")),
    ("a=a", Same("a", "a")),
    ("a=0", Same("a", 0)),
    ("0=a", Same(0, "a")),
    ("7=7", Same(7, 7)),
    ("-1=10", Same(-1, 10)),
    ("abcdefgh=zzzzzzzz", Same("abcdefgh", "zzzzzzzz")),
    ("a#b", Opposite(Same("a", "b"))),
    ("-20#0", Opposite(Same(-20, 0))),
    ("not(yes)", Opposite(Truth(True))),
    ("not(no)", Opposite(Truth(False))),
    ("not(a#b)", Opposite(Opposite(Same("a", "b")))),
    ("not(not(a#b))", Opposite(Opposite(Opposite(Same("a", "b"))))),
    ("not(all())", Opposite(AllOf([]))),
    ("all()", AllOf([])),
    ("any()", OneOf([])),
    ("all(yes)", AllOf([Truth(True)])),
    ("any(a=1)", OneOf([Same("a", 1)])),
    ("all(a=1; b#-2)", AllOf([Same("a", 1), Opposite(Same("b", -2))])),
    ("any(no; a=1; no)", OneOf([Truth(False), Same("a", 1), Truth(False)])),
    ("all(any(); all(); not(any()))", AllOf([OneOf([]), AllOf([]), Opposite(OneOf([]))])),
    ("any(all(a=1; not(any(b=c; b=d))); c#d)",
     OneOf([AllOf([Same("a", 1), Opposite(OneOf([Same("b", "c"), Same("b", "d")]))]), Opposite(Same("c", "d"))])),
    ("yes=no", Same("yes", "no")),
    ("no#yes", Opposite(Same("no", "yes"))),
    ("all=any", Same("all", "any")),
    ("all(not=1; any#all; yes=1; yes)",
     AllOf([Same("not", 1), Opposite(Same("any", "all")), Same("yes", 1), Truth(True)])),
    ("not(not#not)", Opposite(Opposite(Same("not", "not")))),
]

TABLES = [
    ("\nwhole yes", Table([], [])),
    ("\nwhole no", Table([], [], Truth(False))),
    ("\nwhole yes\n: yes", Table([], [([], Truth(True))])),
    ("\nwhole a=1\n: a=2\n: not(no)", Table([], [([], Same("a", 2)), ([], Opposite(Truth(False)))], Same("a", 1))),
    ("x\nwhole yes", Table(["x"], [])),
    ("y x\nwhole all()", Table(["y", "x"], [], AllOf([]))),
    ("x\nwhole yes\na : yes", Table(["x"], [(["a"], Truth(True))])),
    ("x y\nwhole b#0\na 1 : yes\n-2 b : any(a=3; a=4)",
     Table(["x", "y"], [(["a", 1], Truth(True)), ([-2, "b"], OneOf([Same("a", 3), Same("a", 4)]))],
           Opposite(Same("b", 0)))),
    ("whole yes\nwhole yes\nwhole yes : no", Table(["whole", "yes"], [(["whole", "yes"], Truth(False))])),
    ("x\nwhole yes\n1 : yes\n1 : yes", Table(["x"], [([1], Truth(True)), ([1], Truth(True))])),
]

WRONG_CONDS = [
    "", " ", "\n", "Yes", "YES", "maybe", "a", "0", "-1", "()", "(yes)", "yes()", "no(yes)", "yes yes", "yes; no",
    "yes;", " yes", "yes ", "yes\n", "\nyes", "yes\t", "not", "not()", "not(", "not(yes", "not yes", "not(yes))",
    "not(yes; no)", "not (yes)", "not( yes)", "not(yes )", "all", "all(", "all)", "all(()", "all())", "all( )",
    "all(;)", "all(; )", "all(yes; )", "all(; yes)", "all(yes;no)", "all(yes ; no)", "all(yes;  no)",
    "all(yes; no;)", "all(yes; ; no)", "all(yes, no)", "all(yes no)", "all(yes;\nno)", "all(yes; no",
    "all(yes; no))", "all [yes]", "all[yes]", "all{}", "all(yes)(no)", "all(yes)yes", "any", "any(", "any(yes; )",
    "any(yes;no)", "some(yes)", "ALL()", "All()", "one()", "a=", "=a", "=", "#", "a==b", "a=b=c", "a#b#c", "a!=b",
    "a<>b", "a = b", "a= b", "a =b", "a=b ", " a=b", "a#", "#a", "a=#b", "a#=b", "a=b\n", "a=(b)", "(a=b)", "a-b",
    "a=b;", "a=b; c=d", "A=b", "a=B", "aA=b", "a_b=c", "a1=b", "1a=b", "a=b1", "a=1b", "abcdefghi=a", "a=abcdefghi",
    "a=00", "a=01", "a=-0", "a=-01", "a=-", "a=--1", "a=+1", "a=- 1", "a=1.0", "a=1,0", "a=1_0", "a=0x1", "a=1e1",
    "-=1", "a=-b", "00=a", "-0=a", "a='b'", 'a="b"', "a=\u0661", "a=\u00b2", "a=\uff11", "\u00e9=1", "\uff41=1",
    "\u0131=1", "a\u200b=1", "a\u00a0=1", "a=1\u2028", "\ufeffyes", "yes\x00", "not(a=b", "not(a=b))", "not(a)",
    "not(a=)", "all(a=1; b)", "all(1)", "any(a)", "keep(yes; a)", "whole yes",
]

WRONG_TABLES = [
    "", "\n", "x", "x\n", "whole yes", "x\nwhole", "x\nwhole ", "x\nwhole  yes", "x\nwholeyes", "x\n whole yes",
    "x\nWhole yes", "x\nyes", "x\nwhole yes ", "x\nwhole yes\n", "\nwhole yes\n", "\n\nwhole yes", "x\n\nwhole yes",
    "x\nwhole yes\n\n1 : yes", "x\nwhole yes\n1 : yes\n", "x\nwhole yes\n1 : yes ", " \nwhole yes", " x\nwhole yes",
    "x \nwhole yes", "x  y\nwhole yes", "x, y\nwhole yes", "x;y\nwhole yes", "x\ty\nwhole yes", "X\nwhole yes",
    "1\nwhole yes", "x1\nwhole yes", "abcdefghi\nwhole yes", "x\nwhole a", "x\nwhole maybe", "x\nwhole yes; no",
    "x\nwhole yes\n1: yes", "x\nwhole yes\n1 :yes", "x\nwhole yes\n1 yes", "x\nwhole yes\n1 : ", "x\nwhole yes\n1 :",
    "x\nwhole yes\n1 ", "x\nwhole yes\n1", "x\nwhole yes\n: yes", "x\nwhole yes\n : yes", "x\nwhole yes\n1  : yes",
    "x\nwhole yes\n 1 : yes", "x\nwhole yes\n1 :  yes", "x\nwhole yes\n1 2 : yes", "x y\nwhole yes\n1 : yes",
    "x y\nwhole yes\n1  2 : yes", "x y\nwhole yes\n1 2 3 : yes", "x y\nwhole yes\n12 : yes",
    "x y\nwhole yes\n1, 2 : yes", "\nwhole yes\n1 : yes", "\nwhole yes\n : yes", "\nwhole yes\n:yes",
    "\nwhole yes\nyes", "\nwhole yes\n: : yes", "x\nwhole yes\n01 : yes", "x\nwhole yes\n-0 : yes",
    "x\nwhole yes\nA : yes", "x\nwhole yes\n1 : a", "x\nwhole yes\n1 : yes : yes",
    "x\nwhole yes\n1 : yes\n2 : yes\n3 4 : yes", "x x\nwhole yes", "x y x\nwhole yes", "x x\nwhole yes\n1 1 : yes",
    "x x\nwhole yes\n1 : yes", "x\rwhole yes", "x\r\nwhole yes", "x\nwhole yes\r\n1 : yes", "x\nwhole yes\r1 : yes",
    "x\nwhole yes\x0b1 : yes", "x\nwhole yes\x0c1 : yes", "x\nwhole yes\u20281 : yes", "x\nwhole yes\x851 : yes",
    "x\n1 : yes", "x\n1 : yes\nwhole yes", "x\nwhole yes\nwhole yes\n1 : yes", "x\nwhole yes\n1 : yes; no",
    "whole yes\nx\n1 : yes",
]


def is_cond(text):
    """Whether a text is a condition by the words of 33, however many stand one within another."""
    return "\x01" not in text and re.fullmatch(SEEN, conds_seen(text)) is not None


def is_table(text):
    """Whether a text is a table by the words of 34."""
    lines = text.split("\n")
    if len(lines) < 2 or not re.fullmatch("(?:[a-z]{1,8}(?: [a-z]{1,8})*)?", lines[0]):
        return False
    columns = lines[0].split(" ") if lines[0] else []
    if len(set(columns)) < len(columns) or not lines[1].startswith("whole ") or not is_cond(lines[1][len("whole "):]):
        return False
    for line in lines[2:]:
        found = re.fullmatch(f"((?:{CELL} )*): (.*)", line)
        if found is None or found[1].count(" ") != len(columns) or not is_cond(found[2]):
            return False
    return True


def as_shown(text):
    """A text that is read, with the Opposites of Sames as they are shown."""
    return re.sub(f"not\\(({CELL})=({CELL})\\)", "\\1#\\2", text)


def nested(words, inner):
    """A text with so many of all, any and not around another one, the first word outermost."""
    return "".join(word + "(" for word in words) + inner + ")" * len(words)


class CondTextTest(unittest.TestCase):
    """Point 33."""

    def test_written(self):
        for text, cond in CONDS:
            with self.subTest(text=text):
                self.assertEqual(shown_cond(cond), text)

    def test_read(self):
        for text, cond in CONDS:
            with self.subTest(text=text):
                self.assertEqual(shape(read_cond(text)), shape(cond))

    def test_the_words_of_the_tests_agree(self):
        for text, cond in CONDS:
            self.assertEqual(cond_written(cond), text)
            self.assertTrue(is_cond(text), text)
        for text in WRONG_CONDS:
            self.assertFalse(is_cond(text), text)
        for text, table in TABLES:
            self.assertTrue(is_table(text), text)
        for text in WRONG_TABLES:
            self.assertFalse(is_table(text), text)

    def test_the_kinds_of_what_is_read(self):
        cond = read_cond("all(a=-7; no)")
        self.assertIs(type(cond.parts), tuple)
        self.assertIs(type(cond.parts[0]), Same)
        self.assertIs(type(cond.parts[0].other), int)
        self.assertIs(cond.parts[1].said, False)
        self.assertIs(read_cond("yes").said, True)
        self.assertIs(type(shown_cond(Same("a", 1))), str)

    def test_values_of_one_and_of_sixty_figures(self):
        for value in (0, 1, 9, -1, -9, HIGH, -HIGH, 10 ** 59, -10 ** 59, 10 ** 59 + 7):
            for cond in (Same("a", value), Same(value, "a"), Opposite(Same(value, value))):
                text = cond_written(cond)
                with self.subTest(text=text):
                    self.assertEqual(shown_cond(cond), text)
                    self.assertEqual(shape(read_cond(text)), shape(cond))

    def test_more_figures_are_refused(self):
        for figures in ("1" + "0" * 60, "-1" + "0" * 60, "9" * 61, "-" + "9" * 61, "1" * 62, "1" * 5000):
            for text in (f"a={figures}", f"{figures}=a", f"{figures}#1", f"all(1=1; {figures}=1)"):
                with self.subTest(text=text[:70]):
                    refused(self, NoText, read_cond, text)

    def test_each_sign_behind_a_figure_or_a_letter(self):
        for sign in map(chr, list(range(128)) + [0xaa, 0xb5, 0xe9, 0x131, 0x3b1, 0x660, 0x966, 0x2160, 0xff11, 0xff41]):
            for text in (f"a=1{sign}", f"1{sign}=a", f"b{sign}=1", f"1#b{sign}", f"a{sign}1", sign, f"all{sign})"):
                with self.subTest(text=text):
                    if is_cond(text):
                        self.assertEqual(shown_cond(read_cond(text)), text)
                    else:
                        refused(self, NoText, read_cond, text)

    def test_a_0_ahead_is_refused(self):
        for figures in ("00", "01", "-0", "-00", "-01", "0" * 60, "0" + "1" * 59, "-0" + "1" * 59):
            refused(self, NoText, read_cond, f"a={figures}")
            refused(self, NoText, read_cond, f"{figures}=a")

    def test_not_of_a_same(self):
        for text, told in (("not(a=b)", "a#b"), ("not(-1=a)", "-1#a"), ("not(not(a=b))", "not(a#b)"),
                           ("all(not(a=b); not(c#d))", "all(a#b; not(c#d))"), ("not(yes=no)", "yes#no")):
            with self.subTest(text=text):
                self.assertEqual(shown_cond(read_cond(text)), told)
                self.assertEqual(shape(read_cond(text)), shape(read_cond(told)))
        self.assertEqual(shape(read_cond("not(a=b)")), ("opposite", ("same", "a", "b")))

    def test_small_ones_there_and_back(self):
        for cond in small_conds(["a", 0]):
            text = shown_cond(cond)
            self.assertEqual(text, cond_written(cond))
            self.assertEqual(shape(read_cond(text)), shape(cond))

    def test_drawn_ones_there_and_back(self):
        chance = random.Random(5)
        names = ["a", "yes", "no", "all", "any", "not", "keep", "whole"]
        told = [drawn_cond(chance, names, [0, -1, HIGH, -HIGH], chance.randint(1, 200), 12) for number in range(60)]
        for cond in drawn_conds(300, seed=33) + told:
            text = shown_cond(cond)
            self.assertEqual(text, cond_written(cond))
            self.assertEqual(shape(read_cond(text)), shape(cond))

    def test_twenty_within_are_read(self):
        for words in (["all"] * 20, ["any"] * 20, ["not"] * 20, ["all", "any", "not", "any"] * 5):
            for inner in ("yes", "a=1", "a#1"):
                text = nested(words, inner)
                with self.subTest(text=text):
                    self.assertEqual(shown_cond(read_cond(text)), as_shown(text))
            text = nested(words[:-1], "all()")
            self.assertEqual(shown_cond(read_cond(text)), text)
        text = "all(" + nested(["all"] * 19, "yes") + "; " + nested(["any"] * 19, "no") + ")"
        self.assertEqual(shown_cond(read_cond(text)), text)

    def test_twenty_one_within_are_refused(self):
        for words in (["all"] * 21, ["any"] * 21, ["not"] * 21, ["all", "any", "not"] * 7):
            for inner in ("yes", "a=1", "a#1"):
                refused(self, NoText, read_cond, nested(words, inner))
            for inner in ("all()", "any()", "not(a=1)", "not(yes)"):
                refused(self, NoText, read_cond, nested(words[:-1], inner))
            refused(self, NoText, read_cond, "any(a=1; " + nested(words[:-1], "yes") + "; b=1)")
        refused(self, NoText, read_cond, nested(["all"] * 5000, "yes"))
        refused(self, NoText, read_cond, "all(" * 5000)

    def test_conditions_of_twenty_within_are_written(self):
        for layers in (19, 20, 24, 60):
            cond = layered(Same("a", 1), layers)
            self.assertEqual(shown_cond(cond), cond_written(cond))
        text = shown_cond(layered(Same("a", 1), 19))
        self.assertEqual(shown_cond(read_cond(text)), text)

    def test_two_hundred_atoms(self):
        cond = AllOf([OneOf([Same("abcdefgh", HIGH - number), Opposite(Same(-HIGH, "a"))]) for number in range(100)])
        self.assertEqual(shape(read_cond(shown_cond(cond))), shape(cond))

    def test_a_part_that_stands_at_many_places(self):
        cond = Truth(True)
        for number in range(16):
            cond = AllOf([cond, cond])
        self.assertEqual(shown_cond(cond), cond_written(cond))

    def test_written_otherwise(self):
        for text in WRONG_CONDS:
            with self.subTest(text=text):
                refused(self, NoText, read_cond, text)

    def test_one_sign_otherwise(self):
        for text in ("yes", "a=-10", "no#ab", "all()", "not(yes)", "any(a=0; not(b#c); all(no))", "not(a=1)"):
            for other in one_sign_otherwise(text, "a0-1;( )=#\ny"):
                with self.subTest(text=other):
                    if is_cond(other):
                        self.assertEqual(shown_cond(read_cond(other)), as_shown(other))
                    else:
                        refused(self, NoText, read_cond, other)


class TableTextTest(unittest.TestCase):
    """Point 34."""

    def test_written(self):
        for text, table in TABLES:
            with self.subTest(text=text):
                self.assertEqual(shown_table(table), text)

    def test_read(self):
        for text, table in TABLES:
            with self.subTest(text=text):
                self.assertEqual(table_shape(read_table(text)), table_shape(table))

    def test_the_kinds_of_what_is_read(self):
        table = read_table("x y\nwhole yes\n-5 a : no")
        self.assertIs(type(table), Table)
        cells = table.rows()[0][0]
        self.assertEqual([type(cell) for cell in cells], [int, str])
        self.assertIs(type(shown_table(table)), str)

    def test_what_is_read_is_a_table_as_any_other(self):
        table = read_table("x y\nwhole b#0\na 1 : yes\n2 b : a=3")
        self.assertEqual(table.gaps(), ["a", "b"])
        self.assertEqual(table.standing(), [0, 1, 2, 3])
        self.assertEqual(table.filled({"a": 3, "b": 5}), [(2, 5), (3, 1)])
        self.assertIsNone(table.filled({"a": 3, "b": 0}))

    def test_values_of_sixty_figures(self):
        table = Table(["abcdefgh", "b"], [([HIGH, -HIGH], Same(HIGH, "c"))], Opposite(Same("zzzzzzzz", -HIGH)))
        text = f"abcdefgh b\nwhole zzzzzzzz#-{'9' * 60}\n{'9' * 60} -{'9' * 60} : {'9' * 60}=c"
        self.assertEqual(shown_table(table), text)
        self.assertEqual(table_shape(read_table(text)), table_shape(table))
        refused(self, NoText, read_table, f"x\nwhole yes\n1{'0' * 60} : yes")
        refused(self, NoText, read_table, f"x\nwhole yes\n-1{'0' * 60} : yes")

    def test_not_of_a_same(self):
        table = read_table("x\nwhole not(a=1)\n1 : not(a=b)")
        self.assertEqual(shown_table(table), "x\nwhole a#1\n1 : a#b")

    def test_drawn_ones_there_and_back(self):
        for table in drawn_tables(200, seed=34):
            text = shown_table(table)
            rows = ["".join(f"{cell} " for cell in cells) + ": " + cond_written(cond) for cells, cond in table.rows()]
            ahead = [" ".join(table.columns()), "whole " + cond_written(table.whole())]
            self.assertEqual(text.split("\n"), ahead + rows)
            self.assertEqual(table_shape(read_table(text)), table_shape(table))

    def test_twenty_four_rows_and_eight_columns(self):
        columns = ["a", "b", "c", "d", "e", "f", "g", "h"]
        rows = [([number, "a", -number, "b", 0, 1, 2, number], layered(Same("a", number), 19)) for number in range(24)]
        table = Table(columns, rows)
        self.assertEqual(table_shape(read_table(shown_table(table))), table_shape(table))

    def test_a_table_that_ruled_tells(self):
        rows = [([number, "a" if number % 3 else "b"], layered(Same("a", number), 3)) for number in range(24)]
        table = Table(["x", "y"], rows, Opposite(Same("a", "b")))
        told = ruled(table, [Key(["y"]), Stands(["x"], table, ["y"])])
        self.assertGreater(told.whole().atoms(), 200)
        self.assertEqual(table_shape(read_table(shown_table(told))), table_shape(told))

    def test_twenty_and_twenty_one_within(self):
        twenty = nested(["all"] * 20, "yes")
        text = f"x\nwhole {twenty}\n1 : {twenty}"
        self.assertEqual(shown_table(read_table(text)), text)
        refused(self, NoText, read_table, f"x\nwhole not({twenty})\n1 : {twenty}")
        refused(self, NoText, read_table, f"x\nwhole {twenty}\n1 : not({twenty})")

    def test_written_otherwise(self):
        for text in WRONG_TABLES:
            with self.subTest(text=text):
                refused(self, NoText, read_table, text)

    def test_one_sign_otherwise(self):
        for text in ("\nwhole yes", "\nwhole no\n: yes\n: a=1", "x y\nwhole a=1\na 1 : yes\n-20 b : not(no)"):
            for other in one_sign_otherwise(text, "x0-1:;( )=\ny"):
                with self.subTest(text=other):
                    if is_table(other):
                        self.assertEqual(shown_table(read_table(other)), as_shown(other))
                    else:
                        refused(self, NoText, read_table, other)

    def test_a_table_stays_as_it_was(self):
        table = Table(["x"], [(["a"], Same("a", 1))], Same("a", 2))
        before = table_shape(table)
        first = shown_table(table)
        self.assertEqual(shown_table(table), first)
        self.assertEqual(table_shape(table), before)


if __name__ == "__main__":
    unittest.main()
