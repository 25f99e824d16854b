"""The whole, point 4: fillings, asks, rules, papers and houses together, over drawn houses."""

import random
import unittest

from maybetables.asks import read_ask
from maybetables.conds import AllOf, OneOf, Opposite
from maybetables.counting import counted
from maybetables.errors import NoName, TooMany
from maybetables.fixing import fixed
from maybetables.house import House
from maybetables.lists import same_lists
from maybetables.looking import looked
from maybetables.rules import Key, Leads, Stands, ruled
from maybetables.sameness import everywhere
from maybetables.simple import simple
from maybetables.sureness import brings, maybe, sure, sure_rows
from maybetables.texts import read_table, shown_table
from tests.samples import (ask_written, drawn_ask, drawn_table, every_filling, filling_right, paper_right, retold,
                           table_shape, told_or_refused)

NAMES = (("t", ["x", "y"]), ("s", ["y", "x"]), ("u", ["z"]))


def drawn_rules(chance, tables):
    """Some rules for the table s, one of them perhaps with another table."""
    rules = [Key(["x"]), Leads(["y"], "x"), Stands(["x"], tables["u"], ["z"]),
             Stands(["y", "x"], tables["t"], ["y", "x"])]
    return chance.sample(rules, chance.randint(0, 2))


def drawn_house(chance):
    """Tables by names, some of them under rules, and the text of an ask of them that is not refused."""
    while True:
        tables = {}
        for name, columns in NAMES:
            tables[name] = drawn_table(chance, columns, chance.randint(0, 3), ["a", "b"], [0, 1])
        tables["s"] = ruled(tables["s"], drawn_rules(chance, tables))
        lists = {name: (table.columns(), []) for name, table in tables.items()}
        text = ask_written(drawn_ask(chance, lists, chance.randint(2, 5), pairs=2))
        told = told_or_refused(read_ask(text).answer, tables)
        if not isinstance(told, tuple):
            return tables, text, told


def plain_at(text, tables, filling):
    """The rows that the plain ask makes of the tables filled; None where the whole of one that it names fails."""
    lists = {}
    for name, table in tables.items():
        rows = table.filled(filling)
        if rows is not None:
            lists[name] = (table.columns(), rows)
    try:
        return read_ask(text).plain(lists)[1]
    except NoName:
        return None


class WholeTest(unittest.TestCase):
    """What is told of a drawn house, held against every filling out of some values."""

    def setUp(self):
        chance = random.Random(36)
        self.drawn = [drawn_house(chance) for number in range(120)]

    def fillings(self, tables, further=()):
        """Every filling of both gaps by the values of all tables, by those handed in, and by three more."""
        values = [value for table in tables for value in table.standing()]
        return every_filling(["a", "b"], values + list(further), 3)

    def lists(self, tables, text, table, further=()):
        """The plain answers at all these fillings, but where a whole fails."""
        told = [plain_at(text, tables, filling)
                for filling in self.fillings(list(tables.values()) + [table], further)]
        return [rows for rows in told if rows is not None]

    def some_rows(self, chance, table):
        """A few rows, as they might be told of a table."""
        stock = table.standing() + [0, 1, 77]
        return [tuple(chance.choice(stock) for column in table.columns()) for number in range(3)]

    def test_the_answer_filled_is_the_plain_answer(self):
        seen = []
        for tables, text, table in self.drawn:
            for filling in self.fillings(list(tables.values()) + [table]):
                rows = table.filled(filling)
                self.assertEqual(rows, plain_at(text, tables, filling))
                seen.append(bool(rows))
        self.assertGreater(seen.count(True), 300)

    def test_a_house_is_filled_as_its_tables(self):
        for tables, text, table in self.drawn:
            house = House(tables)
            for filling in self.fillings(tables.values()):
                told = {name: part.filled(filling) for name, part in tables.items()}
                self.assertEqual(house.fill(filling), None if None in told.values() else told)
            self.assertEqual(table_shape(house.answer(text)), table_shape(table))

    def test_sure_rows_and_rows_that_may_be(self):
        chance = random.Random(1)
        seen = []
        for tables, text, table in self.drawn:
            lists = self.lists(tables, text, table)
            told = House(tables).sure(text)
            if lists:
                self.assertEqual(told, sorted(set(lists[0]).intersection(*lists)))
            else:
                self.assertIsNone(told)
            seen.append(told)
            for row in self.some_rows(chance, table) + (lists[0][:2] if lists else []):
                # Any further value makes the same kind as one that stands nowhere.
                may = any(row in rows for rows in self.lists(tables, text, table, row))
                self.assertIs(House(tables).may(text, row), may)
        self.assertIn(None, seen)
        self.assertGreater(len([told for told in seen if told]), 10)

    def test_papers_and_fillings_of_rows(self):
        chance = random.Random(2)
        words = []
        for tables, text, table in self.drawn:
            for row in self.some_rows(chance, table) + (sure_rows(table) or [])[:2]:
                there = brings(table, row)
                for ask, cond, has in ((sure, OneOf([Opposite(table.whole()), there]), False),
                                       (maybe, Opposite(AllOf([table.whole(), there])), True)):
                    word, told = ask(table, row)
                    words.append(word)
                    if word in ("sure", "never"):
                        paper_right(self, cond, told)
                    else:
                        filling_right(self, told, table.gaps())
                        self.assertIs(row in table.filled(told), has)
        for word in ("sure", "lacks", "may", "never"):
            self.assertGreater(words.count(word), 20)

    def test_rows_counted(self):
        chance = random.Random(3)
        for tables, text, table in self.drawn:
            for row in self.some_rows(chance, table):
                values = sorted(set(table.standing()) | set(row))
                for further in (0, 1, 4):
                    found = [filling for filling in every_filling(table.gaps(), values, further)
                             if row in (table.filled(filling) or [])]
                    self.assertEqual(counted(table, row, len(values) + further), len(found))

    def test_what_is_fixed_is_asked_to_the_same(self):
        seen = []
        for tables, text, table in self.drawn:
            said = fixed(table)
            if said[0] == "none":
                paper_right(self, Opposite(table.whole()), said[1])
                self.assertEqual(self.lists(tables, text, table), [])
            else:
                seen.append(len(said[1]))
                for filling in self.fillings(list(tables.values()) + [table]):
                    if table.filled(filling) is not None:
                        self.assertEqual(said[2].filled(filling), table.filled(filling))
                        for gap, cell in said[1].items():
                            self.assertEqual(filling[gap], filling.get(cell, cell))
        self.assertIn(1, seen)
        self.assertIn(0, seen)

    def test_what_is_made_simple_holds_at_the_same_fillings(self):
        for tables, text, table in self.drawn:
            for cond in [table.whole()] + [cond for cells, cond in table.rows()]:
                told = simple(cond)
                self.assertLessEqual(told.atoms(), cond.atoms())
                for filling in self.fillings([table]):
                    self.assertIs(told.truth(filling), cond.truth(filling))

    def test_conditions_looked_at(self):
        for tables, text, table in self.drawn:
            for cond in [table.whole()] + [cond for cells, cond in table.rows()]:
                said, told = looked(cond)
                if said == "paper":
                    paper_right(self, cond, told)
                else:
                    filling_right(self, told, cond.gaps())
                    self.assertIs(cond.truth(told), False)

    def test_an_answer_says_the_same_as_itself_told_otherwise(self):
        chance = random.Random(4)
        for tables, text, table in self.drawn:
            other = retold(chance, table)
            self.assertEqual(everywhere(table, other)[0], "same")
            self.assertIn(told_or_refused(same_lists, table, other)[0], ("same", TooMany))

    def test_two_answers_parted_or_the_same(self):
        seen = []
        for tables, text, table in self.drawn:
            for second in ("less(t; s)", "keep(x=1; both(t; s))"):
                other = House(tables).answer(second)
                if sorted(other.columns()) != sorted(table.columns()):
                    continue
                turned = f"take({' '.join(table.columns())}; {second})"
                alike = [filling for filling in self.fillings(list(tables.values()) + [table, other])
                         if plain_at(text, tables, filling) != plain_at(turned, tables, filling)] == []
                said, told = everywhere(table, other)
                self.assertEqual(said, "same" if alike else "parted")
                if not alike:
                    full = {"a": 0, "b": 0, **told}
                    self.assertNotEqual(plain_at(text, tables, full), plain_at(turned, tables, full))
                seen.append(said)
        self.assertIn("same", seen)
        self.assertIn("parted", seen)

    def test_tables_and_answers_there_and_back_as_texts(self):
        for tables, text, table in self.drawn:
            house = House({name: read_table(shown_table(part)) for name, part in tables.items()})
            self.assertEqual(table_shape(house.answer(text)), table_shape(table))
            self.assertEqual(table_shape(read_table(shown_table(table))), table_shape(table))


if __name__ == "__main__":
    unittest.main()
