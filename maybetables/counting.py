"""At how many fillings of a table's gaps a row is in the filled list."""

from maybetables.conds import AllOf
from maybetables.errors import TooFew
from maybetables.fillings import kinds
from maybetables.sureness import brings, check_row, values_with


def tally(table, row):
    """For each number of unlike fresh values, at how many kinds of fillings the row is there; Unlike, TooMany."""
    check_row(table, row)
    values = values_with(table, row)
    there = AllOf([table.whole(), brings(table, row)])
    numbers = [0] * (len(table.gaps()) + 1)
    for filling in kinds(table.gaps(), values):
        if there.truth(filling):
            fresh = len(set([filling[gap] for gap in filling if filling[gap] not in values]))
            numbers[fresh] = numbers[fresh] + 1
    return numbers


def ways(many, stock):
    """In how many ways so many unlike values are given one after another out of a stock."""
    product = 1
    for step in range(many):
        product = product * (stock - step)
    return product


def counted(table, row, stock):
    """At how many fillings out of a stock of so many values the row is there; Unlike, TooMany, TooFew."""
    numbers = tally(table, row)
    wanted = len(values_with(table, row))
    if stock < wanted:
        raise TooFew(wanted)
    return sum([number * ways(fresh, stock - wanted) for fresh, number in enumerate(numbers)])
