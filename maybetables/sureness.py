"""Rows that are in every filled list of a table, and rows that may be in one."""

from maybetables.conds import AllOf, OneOf, Opposite, Same
from maybetables.errors import Unlike
from maybetables.fillings import check_bound, kinds
from maybetables.looking import looked


def values_with(table, row):
    """The values of a table and of a row, rising, each once."""
    return sorted(set(table.standing()) | set(row))


def check_row(table, row):
    """Refuses with Unlike a row of another length, else with TooMany where the bound is too high."""
    if len(row) != len(table.columns()):
        raise Unlike()
    check_bound(len(table.gaps()), len(values_with(table, row)))


def brings(table, row):
    """The condition that a table brings a row of values."""
    parts = []
    for cells, cond in table.rows():
        # The Sames stand ahead, since they often tell sooner that it is another row.
        parts.append(AllOf([Same(cell, value) for cell, value in zip(cells, row)] + [cond]))
    return OneOf(parts)


def sure(table, row):
    """("sure", paper) where every filled list has the row, else ("lacks", filling); Unlike, TooMany."""
    check_row(table, row)
    said, told = looked(OneOf([Opposite(table.whole()), brings(table, row)]))
    return ("sure" if said == "paper" else "lacks", told)


def maybe(table, row):
    """("may", filling) where some filled list has the row, else ("never", paper); Unlike, TooMany."""
    check_row(table, row)
    said, told = looked(Opposite(AllOf([table.whole(), brings(table, row)])))
    return ("never" if said == "paper" else "may", told)


def has_only(row, values):
    """Whether a row has no other values than these."""
    return not sorted(set(row) - set(values))


def sure_rows(table):
    """The rows that every filled list has, sorted; None where no filling keeps the whole; TooMany."""
    found = None
    for filling in kinds(table.gaps(), table.standing()):
        rows = table.filled(filling)
        if rows is not None:
            found = [row for row in rows if found is None or row in found]
        if found == []:
            return []
    # A fresh value stands for every other one, so a row with one is not sure.
    return None if found is None else [row for row in found if has_only(row, table.standing())]
