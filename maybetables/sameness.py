"""Whether two tables are the same at every filling of all their gaps."""

from maybetables.choosing import narrowed
from maybetables.conds import AllOf, OneOf, Opposite
from maybetables.fillings import check_bound
from maybetables.looking import looked_over
from maybetables.pairing import check_like, found_among
from maybetables.tables import gaps_of_both, values_of_both


def each_among(rows, others):
    """For each of some rows the condition that it is not there, or one of others is there and has the same values."""
    return [OneOf([Opposite(cond), found_among(cells, others)]) for cells, cond in rows]


def alike_filled(one, other):
    """The condition that two tables with the same columns, in one order, are filled alike."""
    neither = AllOf([Opposite(one.whole()), Opposite(other.whole())])
    rows = each_among(one.rows(), other.rows()) + each_among(other.rows(), one.rows())
    return OneOf([neither, AllOf([one.whole(), other.whole()] + rows)])


def everywhere(one, other):
    """("same", paper) where two tables are filled alike at each filling, else ("parted", filling); Unlike, TooMany."""
    check_like(one.columns(), other.columns())
    gaps = gaps_of_both(one, other)
    check_bound(len(gaps), len(values_of_both(one, other)))
    said, told = looked_over(alike_filled(one, narrowed(other, one.columns())), gaps)
    return ("same" if said == "paper" else "parted", told)
