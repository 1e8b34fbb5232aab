"""Bounds, moments, wishes and stations: which objects are such, and how they are kept."""

from cookcalls.kinds import CLOCK, is_dish, is_integer, is_list

EDGES = ("start", "done")


def is_bounds(thing):
    """Tell whether the thing is a pair (least, most) of minutes that a dish may take."""
    if not is_list(thing) or len(thing) != 2:
        return False
    least, most = thing
    return is_integer(least) and is_integer(most) and 1 <= least <= most


def is_moment(thing, dishes):
    """Tell whether the thing is the clock, or the start or the done of one of the dishes."""
    if not is_list(thing):
        return thing == CLOCK
    return len(thing) == 2 and thing[0] in EDGES and is_dish(thing[1], dishes)


def is_wish(thing, dishes):
    """Tell whether the thing is a triple of two moments of the dishes and an integer."""
    if not is_list(thing) or len(thing) != 3:
        return False
    one, other, most = thing
    return is_moment(one, dishes) and is_moment(other, dishes) and is_integer(most)


def is_station(thing, dishes):
    """Tell whether the thing is a list of two or more unlike dishes."""
    if not is_list(thing) or len(thing) < 2:
        return False
    return all([is_dish(name, dishes) for name in thing]) and len(set(thing)) == len(thing)


def as_moment(moment):
    """Return the moment with a tuple in the place of a list."""
    return CLOCK if moment == CLOCK else tuple(moment)


def as_wish(wish):
    """Return the wish with tuples in the place of lists."""
    one, other, most = wish
    return (as_moment(one), as_moment(other), most)
