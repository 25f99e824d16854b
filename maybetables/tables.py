"""Tables with gaps: rows under conditions, and a condition for the whole."""

from maybetables.conds import Truth, cell_value, cells_within, check_filling, gaps_among, values_among
from maybetables.errors import NoColumn, Short, Twice


def check_columns(columns):
    """Refuses with Twice columns of which a name stands twice, by the first such name."""
    repeated = [name for name in columns if columns.count(name) > 1]
    if repeated:
        raise Twice(min(repeated))


def check_rows(rows, width):
    """Refuses with Short rows of which one has another number of cells, by the number of the first such row."""
    for number, row in enumerate(rows):
        if len(row[0]) != width:
            raise Short(number)


def check_named(names, columns):
    """Refuses with NoColumn names of which one is no column, by the first such name in their order."""
    for name in names:
        if name not in columns:
            raise NoColumn(name)


def cells_in(names, columns, row):
    """A row's cells in some of the columns, in the order of these names."""
    return tuple([row[columns.index(name)] for name in names])


def cells_put(row, cells):
    """A row's cells with those that a dict gives in the place of gaps."""
    return [cells.get(cell, cell) for cell in row]


def values_at(row, filling):
    """What a row's cells come to at a filling, as a tuple."""
    return tuple([cell_value(cell, filling) for cell in row])


class Table:
    """Columns, rows of cells that each stand under a condition, and a condition for the whole of it."""

    def __init__(self, columns, rows, whole=None):
        self.kept_columns = tuple(columns)
        self.kept_rows = tuple([(tuple(row), cond) for row, cond in rows])
        self.kept_whole = Truth(True) if whole is None else whole
        check_columns(self.kept_columns)
        check_rows(self.kept_rows, len(self.kept_columns))
        cells = cells_within([cond for row, cond in self.kept_rows] + [self.kept_whole])
        for row, cond in self.kept_rows:
            cells.extend(row)
        self.kept_gaps = tuple(sorted(set(gaps_among(cells))))
        self.kept_values = tuple(sorted(set(values_among(cells))))

    def columns(self):
        """The columns' names."""
        return list(self.kept_columns)

    def rows(self):
        """The rows, each a tuple of its cells and its condition."""
        return list(self.kept_rows)

    def whole(self):
        """The condition for the whole of it."""
        return self.kept_whole

    def gaps(self):
        """The gaps that stand in its rows' cells, in their conditions and in its whole, sorted, each once."""
        return list(self.kept_gaps)

    def standing(self):
        """The values that stand there, rising, each once."""
        return list(self.kept_values)

    def filled(self, filling):
        """The sorted rows of values at a filling, each once; None where its whole fails; NoFilling without a gap."""
        check_filling(self.kept_gaps, filling)
        told = {}
        if not self.kept_whole.holds(filling, told):
            return None
        return sorted(set([values_at(row, filling) for row, cond in self.kept_rows if cond.holds(filling, told)]))

    def put(self, cells):
        """The table with the cells that a dict gives in the place of gaps, all at once."""
        made = {}
        rows = [(cells_put(row, cells), cond.put_once(cells, made)) for row, cond in self.kept_rows]
        return Table(self.kept_columns, rows, self.kept_whole.put_once(cells, made))


def gaps_of_both(one, other):
    """The gaps of two tables, sorted, each once."""
    return sorted(set(one.gaps()) | set(other.gaps()))


def values_of_both(one, other):
    """The values of two tables, rising, each once."""
    return sorted(set(one.standing()) | set(other.standing()))
