"""Each condition looked at: a paper that it can't fail, or a filling at which it does."""

from maybetables.conds import Opposite, Same
from maybetables.fillings import check_bound
from maybetables.knowing import Grounds, agreeing, is_clash, known, left_open


def leaf_stands(cond, leaf, assumed):
    """Whether a paper without a split is one for the condition by what is assumed."""
    if leaf[0] == "clash":
        return is_clash(leaf[1], assumed)
    return known(cond, assumed) is True


def is_paper(cond, paper):
    """Whether a paper is one for the condition."""
    # A list of what is still to be looked at, since the splits may stand deeper than calls should.
    waiting = [(paper, [])]
    while waiting:
        part, assumed = waiting.pop()
        if part[0] == "split":
            waiting.append((part[3], assumed + [(part[1], part[2], True)]))
            waiting.append((part[4], assumed + [(part[1], part[2], False)]))
        elif not leaf_stands(cond, part, assumed):
            return False
    return True


def first_same(cond):
    """The first Same in a condition that left_open told."""
    part = cond
    while not isinstance(part, Same):
        part = part.part if isinstance(part, Opposite) else part.parts[0]
    return part


def looked_under(cond, assumed):
    """As looked, by assumed things that don't clash; the filling has just the gaps that stand in them."""
    left = left_open(cond, Grounds(assumed))
    if left is True:
        return ("paper", ("holds",))
    if left is False:
        return ("filling", agreeing(assumed))
    # The cells of a Same that is open may be alike and may be unlike, so neither side comes to a clash, and
    # each side is left with a kind of fillings of its own. What is known stays known with more assumed.
    same = first_same(left)
    alike = looked_under(left, assumed + [(same.one, same.other, True)])
    if alike[0] == "filling":
        return alike
    unlike = looked_under(left, assumed + [(same.one, same.other, False)])
    if unlike[0] == "filling":
        return unlike
    return ("paper", ("split", same.one, same.other, alike[1], unlike[1]))


def looked_over(cond, gaps):
    """As looked, whatever the bound; the filling has just these gaps, among which are all of the condition."""
    said, told = looked_under(cond, [])
    if said == "paper":
        return (said, told)
    filling = {}
    for gap in gaps:
        # A gap of which nothing was assumed does not matter there.
        filling[gap] = told.get(gap, 0)
    return (said, filling)


def looked(cond):
    """("paper", paper) for a condition that can't fail, else ("filling", filling) at which it does not hold."""
    check_bound(len(cond.gaps()), len(cond.standing()))
    return looked_over(cond, cond.gaps())
