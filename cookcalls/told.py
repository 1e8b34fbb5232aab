"""What is told on the way down to a ring: on what some dishes hang, and orders at the stations."""

from cookcalls.kinds import CLOCK
from cookcalls.raising import raised
from cookcalls.rows import is_between, order_as_wish, wish_as_row
from cookcalls.ways import dish_of, end_of


class Told:
    """Hooks and orders that are told, with the rows and the least sums of the dishes that they settle."""

    def __init__(self, hooks, ordered, known, sums):
        self.hooks = hooks
        self.ordered = ordered
        self.known = known
        # One of the two is None: either all that is known can be kept, or some of it goes round.
        self.least, self.loop = raised(sums, known)


def nothing_told(meal):
    """Return what holds of a meal before anything is told."""
    return Told({}, [], wish_rows(meal, {}, [CLOCK]), {CLOCK: 0})


def hung(meal, told, name, hook):
    """Return what is told and, behind it, on what the dish hangs."""
    hooks = {**told.hooks, name: hook}
    settled = settled_hooks(hooks)
    fresh = [dish for dish in settled if dish not in told.least]
    waits = [(dish, settled[dish], 0, ("wait", dish)) for dish in fresh]
    known = told.known + waits + wish_rows(meal, settled, fresh)
    # No sum is less than it was before more was told, so the raising goes on from there.
    sums = {dish: told.least.get(dish, 0) for dish in [CLOCK, *settled]}
    return Told(hooks, told.ordered, known, sums)


def in_order(meal, told, order):
    """Return what is told and, behind it, the order of two settled dishes."""
    row = order_row(meal, told, order) + (("order", len(told.ordered)),)
    return Told(told.hooks, told.ordered + [order], told.known + [row], told.least)


def allows(meal, told, order):
    """Tell whether the least sums keep the order of two settled dishes."""
    start, end, number = order_row(meal, told, order)
    return told.least[end] - told.least[start] <= number


def order_row(meal, told, order):
    """Return the row of the order of two settled dishes."""
    return wish_as_row(order_as_wish(order), told.hooks, meal.dishes())


def settled_hooks(hooks):
    """Return what those dishes hang on that are led to the clock."""
    return {name: hooks[name] for name in hooks if end_of(name, hooks) == CLOCK}


def wish_rows(meal, hooks, fresh):
    """Return the rows of the wishes between dishes of the hooks of which one at least is fresh."""
    bounds = meal.dishes()
    return [wish_as_row(wish, hooks, bounds) + (("wish", index),) for index, wish in enumerate(meal.wishes())
            if is_between(wish, hooks) and (dish_of(wish[0]) in fresh or dish_of(wish[1]) in fresh)]


def raised_again(told, names, more):
    """Return what is told where the numbers of the rows with these names are so many minutes greater."""
    known = [(start, end, number + more if name in names else number, name) for start, end, number, name in told.known]
    # Rows that ask less may leave the sums less, so the raising begins anew.
    return Told(told.hooks, told.ordered, known, {dish: 0 for dish in [CLOCK, *settled_hooks(told.hooks)]})
