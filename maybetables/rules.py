"""Rules on the rows that are there at a filling, asked of a table as a condition, and tables under rules."""

from maybetables.conds import AllOf, Opposite, all_of, one_of, same_cells
from maybetables.errors import Unlike
from maybetables.pairing import found_among
from maybetables.tables import Table, cells_in, check_named


class Rule:
    """Any rule.

    Each sort has a method of its own: asked(table), a condition that holds where the table's rows keep it.
    """


class Key(Rule):
    """Kept where no two unlike rows are alike in some columns."""

    def __init__(self, columns):
        self.names = tuple(columns)

    def asked(self, table):
        """The condition that a table keeps it; NoColumn."""
        check_named(self.names, table.columns())
        return led(table, self.names, [name for name in table.columns() if name not in self.names])


class Leads(Rule):
    """Kept where all rows that are alike in some columns are alike in a further one."""

    def __init__(self, columns, column):
        self.names = tuple(columns)
        self.name = column

    def asked(self, table):
        """The condition that a table keeps it; NoColumn."""
        check_named(self.names + (self.name,), table.columns())
        return led(table, self.names, [self.name])


class Stands(Rule):
    """Kept where what each row has in some columns another table has, in a row that is there, in columns of its own."""

    def __init__(self, columns, other, others):
        self.names = tuple(columns)
        self.other = other
        self.other_names = tuple(others)

    def asked(self, table):
        """The condition that a table keeps it; NoColumn, Unlike."""
        check_named(self.names, table.columns())
        check_named(self.other_names, self.other.columns())
        if len(self.names) != len(self.other_names):
            raise Unlike()
        others = rows_in(self.other, self.other_names)
        return all_of([one_of([Opposite(cond), found_among(cells, others)])
                       for cells, cond in rows_in(table, self.names)])


def rows_in(table, names):
    """A table's rows with the cells of some columns alone, one of which may stand twice."""
    return [(cells_in(names, table.columns(), cells), cond) for cells, cond in table.rows()]


def led(table, names, further):
    """A condition that holds where all rows that are alike in some columns are alike in the further ones."""
    columns = table.columns()
    rows = [(cells_in(names, columns, cells), cells_in(further, columns, cells), cond) for cells, cond in table.rows()]
    parts = []
    for place, row in enumerate(rows):
        later = [pair_led(row, second) for second in rows[place + 1:]]
        parts.append(one_of([Opposite(row[2]), all_of(later)]))
    return all_of(parts)


def pair_led(first, second):
    """As led, of two rows (cells, further cells, condition), as far as the first one is there."""
    # The Sames stand ahead, since they often tell sooner than the second row's condition.
    alike = all_of(same_cells(first[0], second[0]) + [second[2]])
    return one_of([all_of(same_cells(first[1], second[1])), Opposite(alike)])


def ruled(table, rules):
    """The table with a whole that holds where its own does and all rules are kept; refused as the first such rule."""
    whole = table.whole()
    # A table may be ruled again and again: its whole grows longer then, but not deeper.
    parts = whole.parts if isinstance(whole, AllOf) else (whole,)
    return Table(table.columns(), table.rows(), all_of(list(parts) + [rule.asked(table) for rule in rules]))
