"""Whether two tables have the same filled lists, each with gaps of its own."""

from maybetables.choosing import narrowed
from maybetables.conds import AllOf, OneOf, Opposite, Same
from maybetables.fillings import check_bound, fresh_values, kinds
from maybetables.looking import looked
from maybetables.pairing import check_like
from maybetables.sureness import brings
from maybetables.tables import values_of_both


def filled_kinds(table, values):
    """(filling, list as a tuple) for each kind over the table's gaps and these values at which its whole holds."""
    told = []
    for filling in kinds(table.gaps(), values):
        rows = table.filled(filling)
        if rows is not None:
            told.append((filling, tuple(rows)))
    return told


def lists_matched(one, other, values):
    """(filling, list, match) for each kind of the one; match is a filling of the other with that list, or None.

    The values are those of both tables.
    """
    # A list of the one has no values but these, and its kinds no fresh ones but these.
    shown = values + fresh_values(values, len(one.gaps()))
    matches = {}
    for filling, rows in filled_kinds(other, shown):
        matches[rows] = filling
    return [(filling, rows, matches.get(rows)) for filling, rows in filled_kinds(one, values)]


def filled_to(table, rows):
    """The condition that a table is filled to a list of rows."""
    parts = [table.whole()] + [brings(table, row) for row in rows]
    for cells, cond in table.rows():
        sames = [AllOf([Same(cell, value) for cell, value in zip(cells, row)]) for row in rows]
        parts.append(OneOf([Opposite(cond)] + sames))
    return AllOf(parts)


def check_both(one, other, values):
    """Refuses with TooMany two tables of which one has too many kinds beside the gaps of the other."""
    check_bound(len(one.gaps()), len(values) + len(other.gaps()))
    check_bound(len(other.gaps()), len(values) + len(one.gaps()))


def same_lists(one, other):
    """("same", pairs, backs) where each list of either is one of both, else ("parted", side, filling, paper).

    Refuses with Unlike, TooMany.
    """
    check_like(one.columns(), other.columns())
    values = values_of_both(one, other)
    check_both(one, other, values)
    turned = narrowed(other, one.columns())
    told = []
    for side, first, second in ((0, one, turned), (1, turned, one)):
        pairs = []
        for filling, rows, match in lists_matched(first, second, values):
            if match is None:
                return ("parted", side, filling, looked(Opposite(filled_to(second, rows)))[1])
            # One match may fit several kinds, and each pair is to have its own.
            pairs.append((filling, dict(match)))
        told.append(pairs)
    return ("same", told[0], told[1])
