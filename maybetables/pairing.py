"""Asks of two tables: crossed, joined, put together, and the one less the other."""

from maybetables.choosing import narrowed
from maybetables.conds import Opposite, all_of, one_of, same_cells
from maybetables.errors import TooMany, Unlike
from maybetables.tables import Table, cells_in, check_columns

MOST_ROWS = 24


def check_many(rows):
    """Refuses with TooMany so many rows, if they are too many."""
    if rows > MOST_ROWS:
        raise TooMany()


def check_like(columns, others):
    """Refuses with Unlike the columns of two tables that are not the same, in whatever order."""
    if sorted(columns) != sorted(others):
        raise Unlike()


def both_wholes(one, other):
    """A condition that holds where the wholes of both tables do."""
    return all_of([one.whole(), other.whole()])


def crossed(one, other):
    """Each row of the one with each row of the other; Twice where a column is one of both, TooMany."""
    check_columns(one.columns() + other.columns())
    # Without a column of both, two rows are joined wherever both are there.
    return joined(one, other)


def columns_parted(columns, others):
    """The columns of both of two tables, as they stand in the one, and the further ones of the other."""
    shared = [name for name in columns if name in others]
    return (shared, [name for name in others if name not in shared])


def paired(one, other, shared, further):
    """The rows that two tables are joined to, by the columns of both and the further ones of the other."""
    rows = []
    for cells, cond in one.rows():
        left = cells_in(shared, one.columns(), cells)
        for others, other_cond in other.rows():
            sames = same_cells(left, cells_in(shared, other.columns(), others))
            added = cells_in(further, other.columns(), others)
            rows.append((cells + added, all_of(sames + [cond, other_cond])))
    return rows


def joined(one, other):
    """Each row of the one with each of the other, where they are alike in the columns of both; TooMany."""
    check_many(len(one.rows()) * len(other.rows()))
    shared, further = columns_parted(one.columns(), other.columns())
    return Table(one.columns() + further, paired(one, other, shared, further), both_wholes(one, other))


def together(one, other):
    """The rows of the one, then those of the other; Unlike, TooMany."""
    check_like(one.columns(), other.columns())
    check_many(len(one.rows()) + len(other.rows()))
    return Table(one.columns(), one.rows() + narrowed(other, one.columns()).rows(), both_wholes(one, other))


def found_among(cells, rows):
    """A condition that holds where one of some rows is there and its cells come to the same values as these."""
    return one_of([all_of(same_cells(cells, others) + [cond]) for others, cond in rows])


def less(one, other):
    """The rows of the one where the other has not the same row; Unlike."""
    check_like(one.columns(), other.columns())
    others = narrowed(other, one.columns()).rows()
    rows = []
    for cells, cond in one.rows():
        rows.append((cells, all_of([cond, Opposite(found_among(cells, others))])))
    return Table(one.columns(), rows, both_wholes(one, other))
