"""Which calls are needed: on which dishes others must hang, so that there is a right book."""

from cookcalls.checks import check_names
from cookcalls.choices import least_sets
from cookcalls.errors import NoDish
from cookcalls.kinds import is_dish
from cookcalls.seeking import book_for


def enough(meal, looks):
    """Tell whether there is a right book that hangs dishes on the clock and the looks alone."""
    return book_for(meal, looks) is not None


def least_looks(meal):
    """Return the ordered list of all sets of looks, as ascending tuples, that are enough and no part of which is."""
    return least_sets(list(meal), lambda looks: enough(meal, looks))


def in_place(meal, looks, look, other):
    """Tell whether the looks are enough with the other one in the place of a look."""
    check_names(looks, meal.dishes())
    if not is_dish(look, looks):
        raise NoDish(look)
    return enough(meal, [name for name in looks if name != look] + [other])
