"""Assumed things: when they clash, a filling that agrees with them, and what is known of a condition by them."""

from maybetables.conds import AllOf, OneOf, Opposite, Same, gaps_among, values_among
from maybetables.fillings import fresh_values


def join_heads(heads, one, other):
    """Gives all cells that have one of two heads the same one, a value if there is one."""
    kept = other if isinstance(one, str) else one
    for cell in list(heads):
        if heads[cell] == one or heads[cell] == other:
            heads[cell] = kept


def joined_heads(assumed):
    """A head for each cell that stands in assumed things: joined cells share it, and it is a value if they have one."""
    heads = {}
    for one, other, said in assumed:
        heads.setdefault(one, one)
        heads.setdefault(other, other)
        if said:
            join_heads(heads, heads[one], heads[other])
    return heads


def neighbours(assumed):
    """For each cell that is assumed to be alike with one or more, a list of these."""
    beside = {}
    for one, other, said in assumed:
        if said:
            beside.setdefault(one, []).append(other)
            beside.setdefault(other, []).append(one)
    return beside


def chain_between(one, other, assumed):
    """A chain from a cell to another one that it is joined to, no longer than it has to be."""
    beside = neighbours(assumed)
    chains = {one: (one,)}
    latest = [one]
    while other not in chains:
        reached = []
        for cell in latest:
            for further in beside[cell]:
                if further not in chains:
                    chains[further] = chains[cell] + (further,)
                    reached.append(further)
        latest = reached
    return chains[other]


def clash(assumed):
    """A clash of assumed things, a tuple of cells; None where there is none."""
    heads = joined_heads(assumed)
    for one, other, said in assumed:
        if not said and heads[one] == heads[other]:
            return chain_between(one, other, assumed)
    for value in values_among(heads):
        if heads[value] != value:
            return chain_between(value, heads[value], assumed)
    return None


def agreeing(assumed):
    """A filling of just the gaps that stand in assumed things that agrees with them; None where they clash."""
    if clash(assumed) is not None:
        return None
    heads = joined_heads(assumed)
    gaps = gaps_among(heads)
    # Cells that are not joined get unlike values, so all that is assumed to be unlike is.
    fresh = fresh_values(values_among(heads), len(gaps))
    given = dict(zip(gaps, fresh))
    filling = {}
    for gap in gaps:
        filling[gap] = given.get(heads[gap], heads[gap])
    return filling


def is_assumed(one, other, said, assumed):
    """Whether two cells are assumed to be alike, or unlike, in either order."""
    return (one, other, said) in assumed or (other, one, said) in assumed


def is_clash(cells, assumed):
    """Whether a tuple of cells is a chain of assumed things, and a clash."""
    if not cells:
        return False
    for one, other in zip(cells, cells[1:]):
        if not is_assumed(one, other, True, assumed):
            return False
    ends = values_among([cells[0], cells[-1]])
    if len(ends) == 2 and ends[0] != ends[1]:
        return True
    return is_assumed(cells[0], cells[-1], False, assumed)


class Grounds:
    """Assumed things in a form in which two cells are quickly compared."""

    def __init__(self, assumed):
        self.heads = joined_heads(assumed)
        self.apart = {}
        for one, other, said in assumed:
            if not said:
                self.apart[(self.heads[one], self.heads[other])] = True
                self.apart[(self.heads[other], self.heads[one])] = True
        # What left_open told by these, since one condition may stand within many others.
        self.told = {}

    def compared(self, one, other):
        """Whether a Same of two cells is known to hold (True), known to fail (False), or open (None)."""
        first = self.heads.get(one, one)
        second = self.heads.get(other, other)
        if first == second:
            return True
        # Cells that are joined to a value have one as their head.
        if not isinstance(first, str) and not isinstance(second, str):
            return False
        if (first, second) in self.apart:
            return False
        return None


def left_open(cond, grounds):
    """True or False where a condition is known by the grounds, else the condition without its known parts."""
    if cond.atoms() == 0:
        return cond.truth({})
    if isinstance(cond, Same):
        said = grounds.compared(cond.one, cond.other)
        return cond if said is None else said
    if isinstance(cond, Opposite):
        return opposite_left(cond, left_open(cond.part, grounds))
    if cond not in grounds.told:
        grounds.told[cond] = parts_left(cond, isinstance(cond, OneOf), grounds)
    return grounds.told[cond]


def opposite_left(cond, left):
    """What left_open tells of an Opposite, by what it tells of its part."""
    if left is True or left is False:
        return not left
    if isinstance(left, Opposite):
        return left.part
    return cond if left == cond.part else Opposite(left)


def parts_left(cond, settling, grounds):
    """What left_open tells of a OneOf (settling is True: one part that holds settles it) or of an AllOf (False)."""
    kept = []
    for part in cond.parts:
        left = left_open(part, grounds)
        if left is not True and left is not False:
            kept.append(left)
        elif left == settling:
            return settling
    if not kept:
        return not settling
    if len(kept) == 1:
        return kept[0]
    # A condition that is made anew is worked through anew, so where nothing went out the same one is told.
    if tuple(kept) == cond.parts:
        return cond
    return OneOf(kept) if settling else AllOf(kept)


def known(cond, assumed):
    """Whether a condition is known to hold (True) or to fail (False) by assumed things; None where it is open."""
    left = left_open(cond, Grounds(assumed))
    return left if left is True or left is False else None
