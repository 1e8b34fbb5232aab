"""The rows that the sums of a book keep: where they go, and their numbers."""

from cookcalls.kinds import CLOCK, is_dish, is_index, is_list
from cookcalls.ways import dish_of, spread


def wish_as_row(wish, hooks, bounds):
    """Return (from, to, number) of a wish between dishes that the hooks lead to the clock."""
    one, other, most = wish
    return (dish_of(one), dish_of(other), most - spread(one, other, hooks, bounds))


def order_as_wish(order):
    """Return the wish that the start of the later dish is not ahead of the done of the first one."""
    first, later = order
    return (("start", later), ("done", first), 0)


def found_row(row, hooks, meal, orders):
    """Return (from, to, number) of a row, None for any object that is none between the dishes of the hooks."""
    if not is_list(row) or len(row) != 2:
        return None
    kind, which = row
    if kind == "wait":
        return (which, hooks[which], 0) if is_dish(which, hooks) else None
    wish = found_wish(kind, which, meal, orders)
    if wish is None or not is_between(wish, hooks):
        return None
    return wish_as_row(wish, hooks, meal.dishes())


def found_wish(kind, which, meal, orders):
    """Return the wish for which a row stands, None if there is none."""
    if kind == "wish" and is_index(which, meal.wishes()):
        return meal.wishes()[which]
    if kind == "order" and is_index(which, orders):
        return order_as_wish(orders[which])
    return None


def is_between(wish, hooks):
    """Tell whether both moments of the wish are the clock or moments of dishes of the hooks."""
    return all([dish == CLOCK or dish in hooks for dish in (dish_of(wish[0]), dish_of(wish[1]))])


def goes_round(thing, hooks, meal, orders):
    """Tell of any object whether it is a ring of rows between the dishes of the hooks."""
    if not is_list(thing):
        return False
    rows = [found_row(row, hooks, meal, orders) for row in thing]
    if None in rows:
        return False
    # For the first row, at - 1 is the last one, as a ring wants it; without rows, 0 is not less than 0.
    joined = [rows[at - 1][1] == rows[at][0] for at in range(len(rows))]
    return all(joined) and sum([number for start, end, number in rows]) < 0


def all_rows(meal, hooks, orders):
    """Return all rows with their numbers and names, as (from, to, number, name)."""
    names = [("wait", name) for name in hooks]
    names = names + [("wish", index) for index in range(len(meal.wishes()))]
    names = names + [("order", index) for index in range(len(orders))]
    return [found_row(name, hooks, meal, orders) + (name,) for name in names]
