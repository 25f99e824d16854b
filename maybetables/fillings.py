"""Kinds of fillings: one filling for all those that no condition over some gaps and values tells apart."""

from maybetables.errors import TooMany

MOST_KINDS = 1000


def bound(gaps, values):
    """How many kinds there are at most, of so many gaps and so many values."""
    product = 1
    for step in range(gaps):
        product = product * (values + step + 1)
    return product


def check_bound(gaps, values):
    """Refuses with TooMany what has too high a bound."""
    if bound(gaps, values) > MOST_KINDS:
        raise TooMany()


def fresh_values(values, many):
    """The first so many whole numbers from 0 on that are not among the values, rising."""
    fresh = []
    number = 0
    while len(fresh) < many:
        if number not in values:
            fresh.append(number)
        number = number + 1
    return fresh


def lengthened(started, gap, rising, fresh):
    """Each started filling with each value that the gap gets; beside each, how many fresh values it has."""
    longer = []
    for filling, used in started:
        for value in rising + fresh[:used + 1]:
            grown = dict(filling)
            grown[gap] = value
            longer.append((grown, used + 1 if value == fresh[used] else used))
    return longer


def kinds(gaps, values):
    """One filling of each kind over unlike gaps and unlike values; TooMany where the bound is too high."""
    check_bound(len(gaps), len(values))
    rising = sorted(values)
    fresh = fresh_values(rising, len(gaps))
    started = [({}, 0)]
    for gap in gaps:
        started = lengthened(started, gap, rising, fresh)
    return [filling for filling, used in started]


def gap_alike(gap, values, one, other):
    """Whether a gap has one of the values in the one filling just where it has that value in the other."""
    if one[gap] in values or other[gap] in values:
        return one[gap] == other[gap]
    return True


def alike(gaps, values, one, other):
    """Whether two fillings that have all these gaps are of one kind over the gaps and values."""
    for gap in gaps:
        if not gap_alike(gap, values, one, other):
            return False
        for second in gaps:
            if (one[gap] == one[second]) != (other[gap] == other[second]):
                return False
    return True
