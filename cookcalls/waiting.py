"""Waits for a tree: the least and greatest sums that suit a meal, or a ring that shows why there are none."""

from cookcalls.books import Book
from cookcalls.checks import check_orders, check_same
from cookcalls.errors import NoRow
from cookcalls.kinds import CLOCK
from cookcalls.raising import bounded, raised
from cookcalls.rows import all_rows, found_row, goes_round


def earliest(meal, hanging, orders=()):
    """Return the book that suits in which each sum is the least that any has, None if none suits."""
    sums, rows = least_sums(meal, hanging, orders)
    return None if sums is None else Book.of(hanging, sums)


def latest(meal, hanging, orders=()):
    """Return the greatest sums that any book that suits has, None for one without bound; None if none suits."""
    sums, rows = least_sums(meal, hanging, orders)
    if sums is None:
        return None
    hooks = hanging.rows()
    greatest = bounded(CLOCK, all_rows(meal, hooks, orders), len(hooks))
    return {name: greatest.get(name) for name in hooks}


def ring(meal, hanging, orders=()):
    """Return None if a book suits, else rows that go round and whose numbers add up to less than 0."""
    sums, rows = least_sums(meal, hanging, orders)
    return None if rows is None else [row[3] for row in rows]


def least_sums(meal, hanging, orders):
    """Return the least sums that keep all rows and None, or None and a ring."""
    check_same(meal, hanging)
    check_orders(orders, meal.dishes())
    hooks = hanging.rows()
    return raised({name: 0 for name in [CLOCK, *hooks]}, all_rows(meal, hooks, orders))


def is_ring(meal, hanging, orders, thing):
    """Tell of any object whether it is a ring."""
    check_same(meal, hanging)
    check_orders(orders, meal.dishes())
    return goes_round(thing, hanging.rows(), meal, orders)


def row_of(meal, hanging, orders, row):
    """Return (from, to, number) of a row."""
    check_same(meal, hanging)
    check_orders(orders, meal.dishes())
    found = found_row(row, hanging.rows(), meal, orders)
    if found is None:
        raise NoRow(row)
    return found
