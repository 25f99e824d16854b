"""Asks of one table: rows chosen, a table narrowed to some of its columns, and columns called otherwise."""

from maybetables.conds import all_of
from maybetables.errors import Twice
from maybetables.tables import Table, cells_in, check_columns, check_named


def chosen(table, cond):
    """The table's rows where a condition holds in which columns stand in the place of gaps; NoColumn."""
    columns = table.columns()
    check_named(cond.gaps(), columns)
    rows = []
    for cells, own in table.rows():
        rows.append((cells, all_of([own, cond.put(dict(zip(columns, cells)))])))
    return Table(columns, rows, table.whole())


def check_once(names):
    """Refuses with Twice names of which one stood ahead already, by the first such name in their order."""
    for place, name in enumerate(names):
        if name in names[:place]:
            raise Twice(name)


def check_narrowed(names, columns):
    """Refuses names to which columns can't be narrowed: with NoColumn, else with Twice."""
    check_named(names, columns)
    check_once(names)


def narrowed(table, names):
    """The table with these of its columns alone, in this order; NoColumn, Twice."""
    columns = table.columns()
    check_narrowed(names, columns)
    rows = [(cells_in(names, columns, cells), cond) for cells, cond in table.rows()]
    return Table(names, rows, table.whole())


def columns_called(columns, names):
    """Columns called otherwise by a dict from old names to new ones; NoColumn, Twice."""
    check_named(sorted(names), columns)
    renamed = [names.get(name, name) for name in columns]
    check_columns(renamed)
    return renamed


def called(table, names):
    """The table with columns called otherwise by a dict from old names to new ones; NoColumn, Twice."""
    return Table(columns_called(table.columns(), names), table.rows(), table.whole())
