"""Two books of a meal compared: which one starts the dishes earlier, and by how much."""

from cookcalls.checks import check_same
from cookcalls.ways import most_longer, times_longer, way_up


def never_later(meal, one, other):
    """Tell whether in all times each dish starts in the book one no later than in the book other."""
    return all([least >= 0 for least, most in gains(meal, one, other).values()])


def same(meal, one, other):
    """Tell whether in all times each dish starts at the same minute in both books."""
    return parting(meal, one, other) is None


def parting(meal, one, other):
    """Return the first dish whose starts differ in some times, and such times; None if there is none."""
    gained = gains(meal, one, other)
    for name in gained:
        if gained[name] != (0, 0):
            return (name, parted_times(meal, one, other, name))
    return None


def parted_times(meal, one, other, name):
    """Return times in which the starts of a dish differ, as they do in some."""
    mine, yours = ways_in(one, other, name)
    # If the most is 0, the least is not.
    if most_gained(meal, one, other, name) != 0:
        return times_longer(mine, yours, meal.dishes())
    return times_longer(yours, mine, meal.dishes())


def gains(meal, one, other):
    """Return how many minutes earlier each dish starts in one than in other, as pairs of the least and the most."""
    check_same(meal, one)
    check_same(meal, other)
    # At least so many minutes earlier in one is at most so many earlier in other, counted the other way.
    return {name: (-most_gained(meal, other, one, name), most_gained(meal, one, other, name)) for name in meal}


def most_gained(meal, one, other, name):
    """Return the most minutes by which the dish starts earlier in one than in other."""
    mine, yours = ways_in(one, other, name)
    return other.added(name) - one.added(name) + most_longer(mine, yours, meal.dishes())


def ways_in(one, other, name):
    """Return the dishes on the way to the start of the dish in both books."""
    return way_up(name, one.hanging().rows()), way_up(name, other.hanging().rows())
