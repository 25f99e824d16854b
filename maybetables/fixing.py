"""Tables fixed: the gaps that every filling that keeps the whole fills in the same way are filled for good."""

from maybetables.conds import Opposite, cell_value
from maybetables.fillings import check_bound, kinds
from maybetables.looking import looked


def first_alike(gap, cells, fillings):
    """The first of some cells that comes to the same value as a gap at each filling; None where none does."""
    for cell in cells:
        if all([cell_value(cell, filling) == filling[gap] for filling in fillings]):
            return cell
    return None


def fills_by(whole, fillings):
    """For each gap that these kinds of fillings fill in the same way, the value, else the first gap ahead of it."""
    fills = {}
    for place, gap in enumerate(whole.gaps()):
        # Where a gap has a fresh value, any other one keeps the whole as well.
        cell = first_alike(gap, whole.standing() + whole.gaps()[:place], fillings)
        if cell is not None:
            fills[gap] = cell
    return fills


def fixed(table):
    """("fixed", fills, table with them put in), or ("none", paper) where no filling keeps the whole; TooMany."""
    check_bound(len(table.gaps()), len(table.standing()))
    whole = table.whole()
    keeping = [filling for filling in kinds(whole.gaps(), whole.standing()) if whole.truth(filling)]
    if not keeping:
        return ("none", looked(Opposite(whole))[1])
    fills = fills_by(whole, keeping)
    return ("fixed", fills, table.put(fills))
