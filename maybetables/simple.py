"""Conditions made simple: without the gaps that don't matter, and without the parts that are known."""

from maybetables.conds import Truth
from maybetables.fillings import fresh_values, kinds
from maybetables.knowing import Grounds, left_open


def holds_with(cond, filling, gap, value):
    """Whether a condition holds at a filling that has this value for the gap besides."""
    grown = dict(filling)
    grown[gap] = value
    return cond.truth(grown)


def matters(cond, gap):
    """Whether there are two fillings, unlike at the gap alone, at just one of which the condition holds."""
    others = [name for name in cond.gaps() if name != gap]
    for filling in kinds(others, cond.standing()):
        had = cond.standing() + list(filling.values())
        # Any further fresh value makes the same kind as the first.
        told = [holds_with(cond, filling, gap, value) for value in had + fresh_values(had, 1)]
        if True in told and False in told:
            return True
    return False


def simple(cond):
    """A condition that holds at the same fillings, in which each gap matters; TooMany where the bound is too high."""
    filling = kinds(cond.gaps(), cond.standing())[0]
    mattering = [gap for gap in cond.gaps() if matters(cond, gap)]
    if not mattering:
        return Truth(cond.truth(filling))
    # Where a gap does not matter, any cell may stand in its place.
    cells = {}
    for gap in cond.gaps():
        if gap not in mattering:
            cells[gap] = mattering[0]
    return left_open(cond.put(cells), Grounds([]))
