"""The errors that are due for what is passed to several functions."""

from cookcalls.errors import BadMoment, BadOrder, NoDish, Unlike
from cookcalls.kinds import CLOCK, is_dish, is_list
from cookcalls.moments import is_moment


def check_dish(name, dishes):
    """Raise NoDish for any object that is no key of a dict of dishes."""
    if not is_dish(name, dishes):
        raise NoDish(name)


def check_names(names, dishes):
    """Raise NoDish for the first of the names that is no key of a dict of dishes."""
    for name in names:
        check_dish(name, dishes)


def check_same(meal, tree):
    """Raise Unlike if the meal and the book or hanging have not the same dishes."""
    if list(meal) != list(tree):
        raise Unlike()


def check_moments(moments, dishes):
    """Raise BadMoment for the first thing that is no moment of the dishes."""
    for thing in moments:
        if not is_moment(thing, dishes):
            raise BadMoment(thing)


def check_orders(orders, dishes):
    """Raise BadOrder for the first thing that is no pair of unlike dishes."""
    if not is_list(orders):
        raise BadOrder(0)
    for index, thing in enumerate(orders):
        if not is_order(thing, dishes):
            raise BadOrder(index)


def is_order(thing, dishes):
    """Tell whether the thing is a pair of unlike dishes."""
    if not is_list(thing) or len(thing) != 2:
        return False
    first, later = thing
    return is_dish(first, dishes) and is_dish(later, dishes) and first != later


def hooks_of(looks, dishes):
    """Return the clock and, ascending and each once, the looks; NoDish for the first that is no dish."""
    if looks is None:
        return [CLOCK] + sorted(dishes)
    check_names(looks, dishes)
    return [CLOCK] + [name for name in sorted(dishes) if name in looks]
