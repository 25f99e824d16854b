"""What an ask makes of plain lists: pairs (columns, rows) of a list of names and a list of tuples of values.

The pairs that are handed in have their columns each once; those that are told have their rows sorted, each once.
"""

from maybetables.choosing import check_narrowed, columns_called
from maybetables.pairing import check_like, columns_parted
from maybetables.tables import cells_in, check_columns, check_named


def tidy(columns, rows):
    """A pair of these columns and rows, the rows sorted, each once."""
    return (list(columns), sorted(set(rows)))


def plain_chosen(pair, cond):
    """The rows at which a condition holds in which columns stand in the place of gaps; NoColumn."""
    columns, rows = pair
    check_named(cond.gaps(), columns)
    return tidy(columns, [row for row in rows if cond.truth(dict(zip(columns, row)))])


def plain_narrowed(pair, names):
    """These of the columns alone, in this order; NoColumn, Twice."""
    columns, rows = pair
    check_narrowed(names, columns)
    return tidy(names, [cells_in(names, columns, row) for row in rows])


def plain_called(pair, names):
    """The columns called otherwise by a dict from old names to new ones; NoColumn, Twice."""
    columns, rows = pair
    return tidy(columns_called(columns, names), rows)


def plain_crossed(one, other):
    """Each row of the one with each row of the other; Twice where a column is one of both."""
    check_columns(one[0] + other[0])
    return plain_joined(one, other)


def rows_by(shared, further, pair):
    """The rows' values in the further columns, in lists by those in the shared ones."""
    columns, rows = pair
    found = {}
    for row in rows:
        found.setdefault(cells_in(shared, columns, row), []).append(cells_in(further, columns, row))
    return found


def plain_joined(one, other):
    """Each row of the one with each row of the other that is alike in the columns of both."""
    columns, rows = one
    shared, further = columns_parted(columns, other[0])
    added = rows_by(shared, further, other)
    longer = []
    for row in rows:
        longer.extend([row + rest for rest in added.get(cells_in(shared, columns, row), [])])
    return tidy(columns + further, longer)


def plain_together(one, other):
    """The rows of both; Unlike."""
    check_like(one[0], other[0])
    return tidy(one[0], one[1] + plain_narrowed(other, one[0])[1])


def plain_less(one, other):
    """The rows of the one that the other has not; Unlike."""
    check_like(one[0], other[0])
    found = rows_by(one[0], [], other)
    return tidy(one[0], [row for row in one[1] if row not in found])
