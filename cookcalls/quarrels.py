"""Wishes that quarrel: the least sets that no book of a hanging keeps, and the greatest that some book keeps."""

from cookcalls.checks import check_same
from cookcalls.choices import least_sets
from cookcalls.kinds import CLOCK
from cookcalls.raising import raised
from cookcalls.rows import all_rows


def quarrels(meal, hanging):
    """Return the ordered list of the least sets of wishes that no book of the hanging keeps."""
    check_same(meal, hanging)
    rows = all_rows(meal, hanging.rows(), [])
    return least_sets(indexes_of(meal), lambda chosen: not are_kept(rows, without(meal, chosen), hanging))


def peaces(meal, hanging):
    """Return the ordered list of the greatest sets of wishes that some book of the hanging keeps."""
    check_same(meal, hanging)
    rows = all_rows(meal, hanging.rows(), [])
    # A set is greatest if what it leaves out is least; where more is left out, the rest is kept all the more.
    left_out = least_sets(indexes_of(meal), lambda chosen: are_kept(rows, chosen, hanging))
    return sorted([without(meal, left) for left in left_out], key=lambda kept: (len(kept), kept))


def indexes_of(meal):
    """Return the list of the indexes of all wishes."""
    return list(range(len(meal.wishes())))


def without(meal, chosen):
    """Return the tuple of the indexes of all wishes but the chosen ones."""
    return tuple([index for index in indexes_of(meal) if index not in chosen])


def are_kept(rows, left_out, hanging):
    """Tell whether some book of the hanging keeps all wishes but those that are left out."""
    names = [("wish", index) for index in left_out]
    sums, loop = raised({name: 0 for name in [CLOCK, *hanging]}, [row for row in rows if row[3] not in names])
    return sums is not None
